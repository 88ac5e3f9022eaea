import PyProof.Rows.All
import Wide.All
import OpenK.AllK
import Wide.FinOn
import HandS.ForMost
import PyProof.ReprRoads
import HandS.FStrTup
import HandS.Strs
import HandS.SetFor
import HandS.Zip
import HandS.ForExc
import HandS.IsInst
import HandS.Evl
import HandS.Conv
import HandS.Flow
import HandS.Style
import HandS.Sort
import HandS.Walk
import HandS.Codes
import HandS.StrMore
import HandS.TupAny
import HandS.Defaults
import KE.KEqSeq
import HandS.WideBits
import HandS.More
import PyProof.SetRoads
import HandS.Deep
import PyProof.StrBlock2
import KE.GoesNew
import KE.SortData
import PyProof.Rows.StrCase
import PyProof.Rows.ReprOcc
import PyProof.FitsInt
import PyProof.Rows.IntBool
import PyProof.CallStr
import HandS.SlotsOwn
import HandS.OwnEq
import KE.KLam
import KE.SortKeyHeap
import KE.SortLaws
import HandS.Base
import HandS.Call
import HandS.List
import HandS.Comp
import HandS.Text
import HandS.Lambda
import KE.DataCmp
import HandS.ExcInit
import KE.KExcInit
import KE.KExcSuper
import KE.KSuper
import KE.KSuperObj
import HandS.Words
import HandS.WordsExc
import HandS.Exc
import HandS.ExcIs
import HandS.ExcField
import KE.KExcIs
import HandS.CallSlots
import HandS.ExcOwn
import PyProof.Rows.SortShellAny
import KE.DataMinMax
import HandS.SortKw
import HandS.DictComp
import KE.KDictZip
import KE.KItemsList
import HandS.OwnIter
import HandS.ListItems
import HandS.Keys
import HandS.TupMul
import KE.KFmtOwn
import PyProof.SeqInW
import HandS.FStr
import HandS.Small
import HandS.WordsDict
import HandS.NoneIn
import HandS.RaiseMore
import PySem.Challenge.RW_potround_k56_books_of_their_own
set_option Elab.async false
set_option linter.all false
set_option maxRecDepth 100000
namespace Pot
open PySem PySem.Spec PyProof.Rows L2
/-! ### defs that are called where no text of a thing is under way -/
structure FnG (P : Program) (w : World) (K : PySem.W.Frag) (mg : Str → Option Value) (base : Heap) (k : Nat) (f : Addr) (fd : FuncData) (ps : List Str) (sp : Sp) : Prop where
  many : ∀ vs H Q E, sp vs H Q E → vs.length = ps.length
  does : ∀ (A : Around) (outer : List Env) (s : Shared) (H : Hp) (args : Args) (us : List Value) (vs : List V) (Q : VK), A.guards = some [] → Room k A → Env0 P w K mg base A outer s H →
    BindsTo s fd args (ps.zip us) → Vals vs us → sp vs H Q E0 → codeAny (model P w) A (.call (.ref f) args) (CR CX0 outer P w H s Q E0) s
section
variable {P : Program} {w : World} {K : PySem.W.Frag} {mg : Str → Option Value} {base : Heap}
theorem FnG.of {k : Nat} {f : Addr} {fd : FuncData} {ps : List Str} {sp : Sp} (F : FnOk P w K mg base CX0 k f fd ps sp) : FnG P w K mg base k f fd ps sp :=
  ⟨F.len, fun A outer s H args us vs Q _ hr e hb r h => F.run A outer s H args us vs Q E0 hr e hb r h⟩
theorem okG {x qual : Str} {st : Stmt} {f : Addr} {fd : FuncData} {N ps : List Str} {k : Nat} {sp : Sp} (F : Fun K x qual st f fd) (S : FnScope N ps (defScope st)) (many : ∀ vs H Q E, sp vs H Q E → vs.length = ps.length)
    (body : ∀ (cdv : Value) (A : Around) (outer : List Env) (s : Shared) (H : Hp) (vs : List V) (Q : VK), A.guards = some [] → Room k (A.deeper (envOfC qual (defScope st) s.heap.objs.size f cdv)) → sp vs H Q E0 →
      ∃ t, PSs (cxOf CX0 P w K mg base N qual (defScope st) f cdv A outer s H E0).nox (defBody st) t ∧ t { nx := fun _ H' => Q .non H', rt := Q } (start N vs) H) : FnG P w K mg base (k + 1) f fd ps sp := by
  obtain ⟨oc, od, kV, doc, pm, an, cdv, ct, osl, rfl, at_, code⟩ := F.ex
  refine ⟨many, fun A outer s H args us vs Q gd room e0 bind rel want => ?_⟩
  have kin : K.In s.heap := e0.mod.kin.keeps fun b o e => (e0.bs b o e).1
  have nolim : s.heap.NoLimit := e0.mod.nolimit.keeps fun b o e => (e0.bs b o e).1
  refine codeAny_call_function room.depth (kin _ _ at_) rfl S.co S.gen rfl (PySem.W.codeRec_of kin code) (bind _ _ _ _ (wpAny_newFunctionEnv_cells S.kind (fun y hy => ?_) fun env he s1 x => ?_))
  · obtain ⟨n, v⟩ := y
    exact (S.par n (List.of_mem_zip hy).1).imp id fun q => ⟨q, PySem.W.cellsFrom_some _ _ _ (.inl q)⟩
  · subst he
    obtain ⟨t, ht, hq⟩ := body cdv A outer s H vs Q gd (room.deeper _) want
    have I : Inv (cxOf CX0 P w K mg base N qual (defScope st) f cdv A outer s H E0) [] (start N vs) H s1 := inv_start S room.hd e0 (many _ _ _ _ want) rel x
    refine ⟨nolim.keeps x.toInCall.keep, codeAny_func (wpAny_mono (ht.nox.run [] s1 (start N vs) H _ I hq) (fun fl s' hs => ?_) fun _ _ z => z)⟩
    cases fl with
    | ret u =>
      obtain ⟨v, σ', H', J, rv, q⟩ := hs
      exact ⟨v, H', J.os, J.bare, J.base, J.hok, rv, q⟩
    | next =>
      obtain ⟨σ', H', J, q⟩ := hs
      exact ⟨V.non, H', J.os, J.bare, J.base, J.hok, rfl, q⟩
    | brk => obtain ⟨_, _, _, q⟩ := hs; exact q.elim
    | cont => obtain ⟨_, _, _, q⟩ := hs; exact q.elim
/-! calls -/
/-- a def that may be called by its name where no text is under way -/
def ClG (P : Program) (w : World) (K : PySem.W.Frag) (mg : Str → Option Value) (base : Heap) (k : Nat) (x : Str) (ds : List V) (sp : Sp) : Prop :=
  ∃ (f : Addr) (fd : FuncData) (ps : List Str) (dus : List Value), FnG P w K mg base k f fd ps sp ∧ mg x = some (.ref f) ∧ PySem.W.keepIn K (.ref f) = true ∧ Binds K fd ps dus ∧ Vals ds dus
theorem pe_clG {X : Cx} {k j : Nat} {x : Str} {ds : List V} {sp : Sp} {e : Expr} {es : List Expr} {t : TA} {p pos : Pos} (c : ClG X.prog X.w X.K X.mg X.base k x ds sp) (hr : Room j X.A) (gd : X.A.guards = some []) (hk : k ≤ j) (hg : Gl X x) (ha : PA X (e :: es) t)
    (hdb : (x == ("__debug__" : Str)) = false := by decide) (he : starEach (e :: es) X.env = (false, eval e X.env) :: starEach es X.env := by rfl) (hpl : (backTo pos (starEach es X.env)).any (·.1) = false := by rfl) :
    PE X (.Call (.Name x p) (e :: es) [] pos) (tCall sp ds E0 t) := by
  obtain ⟨f, fd, ps, dus, G, named, kept, binds, dv⟩ := c
  refine ⟨fun pins s σ H Q I h => wpAny_Call_Name_kw (ld_glob I hg named (PySem.W.callWith_K (h₀ := X.base) I.ok.mod.kin kept (thn (ha.run pos pins s σ H _ I h) fun us s1 hh => ?_) he hpl) hdb)⟩
  obtain ⟨vs, H1, I1, r, q⟩ := hh
  refine ⟨I1.kIn, ?_⟩
  have rel := r.append dv
  have n : (us ++ dus).length = ps.length := rel.length ▸ G.many _ _ _ _ q
  refine wpAny_call (codeAny_mono (G.does X.A X.stack s1 H1 ⟨us, []⟩ (us ++ dus) (vs ++ ds) Q gd (hr.mono hk) I1.env0 (binds s1 us I1.kIn n) rel q) fun res s' hq => ?_)
  rcases res with _ | fl
  case error => exact (show False from hq).elim
  cases fl <;> first | exact I1.after hq | exact (show False from hq).elim
/-! the law's own call -/
theorem law_callG {mb : Str → Option Value} {k : Nat} {fa a : Addr} {fd : FuncData} {x : Str} {sp : Sp} {s : Shared} {vs : List Value} {ns : List Int} (kin : K.In s.heap) (glob : s.heap.Ns mainGlobals mg) (blt : s.heap.Ns builtinsNs mb)
    (boot : ∀ y : Str, y ≠ "__name__" → mb y = bootBuiltins y) (lim : s.heap.NoLimit) (gens : s.gens = #[]) (obj : s.heap.get? a = some { cls := .type "list", data := .seq vs.toArray }) (whole : IntsAre vs ns) (small : ns.length ≤ sizeLine) (room : Room k callerA)
    (F : ∀ base : Heap, K.In base → base.Ns mainGlobals mg → FnG P w K mg base k fa fd [x] sp) (bind : ∀ (s : Shared) (u : Value), BindsTo s fd ⟨[u], []⟩ [(x, u)])
    (want : ∀ H : Hp, Only H → SqL K H a (ns.map V.int) → sp [.ref a] H (fun v _ => v = .bl true) E0) :
    codeAny (model P w) callerA (.call (.ref fa) ⟨[.ref a], []⟩) (fun r s' => r = .ok (.ret (.bool true)) ∧ OldK s.heap s'.heap ∧ s'.os = s.os ∧ AllBare s'.gens) s := by
  have rv := vals_ints whole
  have nv := whole.length
  -- which heap is told: the script, locked, where it isn't one of the written part
  obtain ⟨H, only, seq, fine, alone, apart⟩ : ∃ H : Hp, Only H ∧ SqL K H a (ns.map V.int) ∧ HOk P w H s.heap ∧ (∀ b u, H b = some u → b = a) ∧ (∀ u, H a = some u → K.lookup a = none) := by
    cases lk : K.lookup a with
    | some o =>
      have same := kin a o lk
      rw [obj] at same
      cases same
      exact ⟨fun _ => none, fun _ => .inl rfl, .inr ⟨_, vs.toArray, _, lk, rfl, rfl, rfl, by rw [List.size_toArray, nv]; exact small, by simpa using rv⟩, (fun b u z => nomatch (show (none : Option HO) = some u from z)), (fun b u z => nomatch (show (none : Option HO) = some u from z)), fun u z => nomatch (show (none : Option HO) = some u from z)⟩
    | none =>
      have hit : ∀ b u, (if b = a then some (HO.frz { cls := .type "list", data := .seq vs.toArray } (.lst (ns.map V.int))) else none) = some u → b = a ∧ u = .frz { cls := .type "list", data := .seq vs.toArray } (.lst (ns.map V.int)) := fun b u z => by
        split at z
        · cases z; exact ⟨‹_›, rfl⟩
        · cases z
      refine ⟨fun b => if b = a then some (.frz { cls := .type "list", data := .seq vs.toArray } (.lst (ns.map V.int))) else none, fun b => ?_, .inl (.inr ⟨_, if_pos rfl⟩), fun b u z => ?_, fun b u z => (hit b u z).1, fun _ _ => rfl⟩
      · by_cases hb : b = a
        · exact .inr ⟨_, _, if_pos hb⟩
        · exact .inl (if_neg hb)
      · obtain ⟨rfl, rfl⟩ := hit b u z
        exact ⟨obj, by rw [List.length_map]; exact small, vs, _, rv, obj⟩
  have hid : ∀ {b : Addr} {o : Obj}, s.heap.get? b = some o → (b = a → H a = none) → (hidT s.heap H).get? b = some o := fun {b o} e n => hidT_get e (by
    cases q : H b with
    | none => rfl
    | some u =>
      have e2 := alone b u q
      subst e2
      rw [n rfl] at q
      cases q)
  have kinB : K.In (hidT s.heap H) := fun b o e => hid (kin b o e) fun z => by
    subst z
    cases q : H b with
    | none => rfl
    | some u => rw [apart u q] at e; cases e
  have ns_ : ∀ {b : Addr} {m : Str → Option Value}, s.heap.Ns b m → (hidT s.heap H).Ns b m := fun {b m} h => by
    obtain ⟨o, es, ep, e, d, r⟩ := h
    refine ⟨o, es, ep, hid e fun z => ?_, d, r⟩
    subst z
    rw [obj] at e
    cases e
    exact nomatch (show Data.seq vs.toArray _ = Data.dict es ep from d)
  have md : Mod K mg (hidT s.heap H) := ⟨kinB, ns_ glob, ⟨mb, ns_ blt, boot⟩, by obtain ⟨mc, h1, h2⟩ := lim; exact ⟨mc, ns_ h1, h2⟩⟩
  have e0 : Env0 P w K mg (hidT s.heap H) callerA [] s H := ⟨rfl, md, fun b o e => of_hidT e, Nat.le_of_eq (hidT_size _ _), trivial, (fun b hb => nomatch (show b ∈ ([] : List Addr) from hb)), fine, .of_eq gens⟩
  refine codeAny_mono ((F _ kinB (ns_ glob)).does callerA [] s H ⟨[.ref a], []⟩ [.ref a] [.ref a] _ rfl room e0 (bind s (.ref a)) (.cons rfl .nil) (want H only seq)) fun res s' h => ?_
  rcases res with _ | fl
  case error => exact (show False from h).elim
  cases fl <;> first | exact (show False from h).elim | skip
  obtain ⟨v, H', os, bare, un, fine', rel, q⟩ := h
  cases (show v = .bl true from q)
  cases (show _ = Value.bool true from rel)
  refine ⟨rfl, OldK.of_keep fun b o e => ?_, os, bare⟩
  cases q : H b with
  | none => exact un.keep b o e q (fun z => nomatch (show b ∈ ([] : List Addr) from z)) (fun z => nomatch z)
  | some u =>
    rcases only b with z | ⟨ob, xs, z⟩
    · rw [q] at z; cases z
    · obtain ⟨e1, _⟩ := fine b _ z
      obtain ⟨e2, _⟩ := fine' b _ (un.frzs b ob _ z)
      rw [e] at e1; cases e1
      exact e2
end
theorem walkG {l : PySem.W.OpenLaw} {n k : Nat} {q : Program} {loose : List Str} {XP : (Str → Option Value) → Heap → Prop} {YP : World → Heap → Prop} {d : DefRec} {K : Params → PySem.W.Frag} {sp : World → Sp} {x : Str}
    (most : l.most = some n) (fits : n ≤ sizeLine) (plain : d.params.defaults = []) (room : Room k callerA) (part : ∀ (w : World) (h : Heap), YP w h → (K w.params).In h)
    (F : ∀ (w : World) (mg : Str → Option Value) (fa : Addr) (h : Heap), (K w.params).In h → h.Ns mainGlobals mg → mg d.name = some (.ref fa) →
      ∃ fd : FuncData, (∀ (s : Shared) (u : Value), BindsTo s fd ⟨[u], []⟩ [(x, u)]) ∧ ∀ base : Heap, (K w.params).In base → base.Ns mainGlobals mg → FnG l.prog w (K w.params) mg base k fa fd [x] (sp w))
    (want : ∀ (w : World) (H : Hp) (a : Addr) (ns : List Int), ns.length ≤ n → Only H → SqL (K w.params) H a (ns.map V.int) → sp w [.ref a] H (fun v _ => v = .bl true) E0) :
    PySem.W.WalkO q loose XP YP l.row.toRowW d [] (fun f vs => PySem.call f vs) := by
  refine Att.attach_call most plain fun w s₀ s₁ mg mb fa o pm cd doc a vs ns G Y _ _ _ named obj whole len gens => ?_
  obtain ⟨fd, bind, hF⟩ := F w mg fa _ (part w _ Y) G.T.g named
  exact law_callG (part w _ Y) G.T.g G.T.b G.T.builtins G.T.nolimit gens obj whole (Nat.le_trans len fits) room hF bind fun H only seq => want w H a ns len only seq
end Pot

namespace Pot
open PySem PySem.Spec PyProof.Rows L2
/-! ### repr of what is made of numbers, texts, truths, None, lists and tuples -/
section
variable {K : PySem.W.Frag}
mutual
theorem dp_noDict {H : Hp} : ∀ {v : V} {d : PyData}, Dp K H v d → d.hasDict = false
  | _, _, .non => rfl
  | _, _, .bl _ => rfl
  | _, _, .int _ => rfl
  | _, _, .str _ => rfl
  | _, _, .lst _ a => dpAll_noDict a
  | _, _, .tup _ a => dpAll_noDict a
theorem dpAll_noDict {H : Hp} : ∀ {vs : List V} {ds : List PyData}, DpAll K H vs ds → PyData.hasDictAll ds = false
  | _, _, .nil => rfl
  | _, _, .cons h t => by
    show (PyData.hasDict _ || PyData.hasDictAll _) = false
    rw [dp_noDict h, dpAll_noDict t]
    rfl
end
/-- how long its text may be, told roughly -/
def costAll : List PyData → Nat
  | [] => 0
  | x :: xs => cost x + 2 + costAll xs
where cost : PyData → Nat
  | .none => 4
  | .bool _ => 5
  | .int _ => 1921
  | .str x => 10 * x.length + 2
  | .list xs => costAll xs + 3
  | .tuple xs => costAll xs + 3
  | .dict _ => 0
/-- what repr is asked of here: its texts of plain signs -/
def fineAll : List PyData → Prop
  | [] => True
  | x :: xs => fine x ∧ fineAll xs
where fine : PyData → Prop
  | .none => True
  | .bool _ => True
  | .int i => i.natAbs.log2 < 1920
  | .str x => ∀ c ∈ x.cps.toList, c < 16 ^ 8
  | .list xs => fineAll xs
  | .tuple xs => fineAll xs
  | .dict _ => False
theorem from_len : ∀ (ts : List Str) (k : Nat) (acc : Str), (textFrom k acc ts).length ≤ acc.length + piled ts
  | [], k, acc => by rw [piled_nil]; exact Nat.le_refl _
  | t :: r, k, acc => by
    have ih := from_len r (k + 1)
    rw [piled_cons]
    unfold textFrom
    refine Nat.le_trans (ih _) ?_
    rw [strLen_append]
    split
    · rw [strLen_append]
      have e : (", " : Str).length = 2 := by decide +kernel
      omega
    · rw [strLen_append]
      have e : ("" : Str).length = 0 := by decide +kernel
      omega
theorem list_len (ts : List Str) : (listText ts).length ≤ piled ts + 2 := by
  unfold listText
  rw [strLen_append]
  have h := from_len ts 0 "["
  have e1 : ("[" : Str).length = 1 := by decide +kernel
  have e2 : ("]" : Str).length = 1 := by decide +kernel
  omega
mutual
theorem shown_len : ∀ d : PyData, fineAll.fine d → d.shown.length ≤ costAll.cost d
  | .none, _ => by decide +kernel
  | .bool b, _ => by cases b <;> decide +kernel
  | .int i, h => PyProof.Rows.int_text_len_1921 h
  | .str x, h => StrLaws.reprText_len x h
  | .list xs, h => Nat.le_trans (list_len _) (Nat.add_le_add (piled_len xs h) (by decide))
  | .tuple xs, h => Nat.le_trans (fmt_text _) (Nat.add_le_add (piled_len xs h) (by decide))
  | .dict _, h => h.elim
theorem piled_len : ∀ ds : List PyData, fineAll ds → piled (PyData.shownAll ds) ≤ costAll ds
  | [], _ => Nat.le_refl _
  | x :: xs, h => by
    have h1 := shown_len x h.1
    have h2 := piled_len xs h.2
    show piled (x.shown :: PyData.shownAll xs) ≤ costAll.cost x + 2 + costAll xs
    rw [piled_cons]
    omega
end
mutual
theorem fine_show : ∀ d : PyData, fineAll.fine d → d.showable = true
  | .none, _ => rfl
  | .bool _, _ => rfl
  | .int i, h => decide_eq_true h
  | .str _, _ => rfl
  | .list xs, h => fineAll_show xs h
  | .tuple xs, h => fineAll_show xs h
  | .dict _, h => h.elim
theorem fineAll_show : ∀ ds : List PyData, fineAll ds → PyData.showableAll ds = true
  | [], _ => rfl
  | x :: xs, h => by
    show (PyData.showable x && PyData.showableAll xs) = true
    rw [fine_show x h.1, fineAll_show xs h.2]
    rfl
end
end
section
variable {X : Cx}
def rRepr (K : PySem.W.Frag) : List V → Hp → VK → Prop := fun xs H Q => ∃ (a : Addr) (d : PyData), xs = [V.ref a] ∧ Dp K H (.ref a) d ∧ fineAll.fine d ∧ d.depth ≤ 60 ∧ costAll.cost d ≤ 16777216 ∧ Q (.str d.shown) H
theorem cr_repr (gd : X.A.guards = some []) (hu : X.A.units + 64 < cLine) : CallR X (.builtin "repr") (rRepr X.K) := by
  intro pins s σ H vs us Q I r h
  obtain ⟨a, d, rfl, dp, sh, dep, sz, q⟩ := h
  rw [Vals.ref1 r]
  obtain ⟨as, rd⟩ := Dp.reads I d (.ref a) (.ref a) dp rfl
  refine repr_of_reads' rd (fine_show d sh) (fun z => ?_) gd (by omega) (fun _ _ e => e) (fun h' u tk k => ⟨.str d.shown, H, I.kept k, ⟨u, rfl⟩, q⟩) (Nat.le_trans (shown_len d sh) (by rw [sizeLine_eq]; exact sz))
  rw [dp_noDict dp] at z
  cases z
end
end Pot

namespace Pot
open PySem PySem.Spec PyProof.Rows L2 PySem.W PySem.Calls
/-! ### set(xs) of a list of ints -/
/-- the object that set() makes first -/
abbrev emptySet (w : World) : Obj := { cls := .type "set", dict := none, data := .set #[] 0 (.fresh 0 0 (!w.params.followText "set-order")) }
section
variable {P : Program} {w : World} {A : Around} {E : Value → Shared → Prop} {s : Shared}
/-- what is wanted behind the filling -/
def Filled (w : World) (s : Shared) (ns : List Int) (s' : Shared) : Prop := ∃ h' tk c, s' = { s with heap := h', toks := tk } ∧ SetR w h' s.heap.objs.size (fun j => decide (j ∈ ns)) c ∧ c ≤ ns.length ∧ ∀ b o, s.heap.get? b = some o → h'.get? b = some o
set_option maxHeartbeats 4000000 in
theorem call_set_li {l : Addr} {items : Array Value} (ns : List Int) {Q : Value → Shared → Prop} (hh : A.handled = none) (hl : s.heap.IsList l items) (hit : IntsAre items.toList ns) (hb : ns.length + 1 < scanBound)
    (hq : ∀ s', Filled w s ns s' → Q (.ref s.heap.objs.size) s') : wpAny (model P w) A (call (.type "set") [.ref l]) Q E s := by
  have size : items.size = ns.length := by
    rw [← Array.length_toList]; exact IntsAre.length hit
  have made := F.called_set.made
  have below := F.called_set.sub
  obtain ⟨_, _, chain⟩ := F.called_set.mro
  have nt := F.called_set.notType
  have cc := F.called_set.canCreate
  have ck := F.typeCall_set_1 (.ref l)
  refine wpAny_call (codeAny_of_tree (show wpAny _ _ (callAny (.type "set") _) _ _ _ from wpAny_pure ⟨Code.quiet_builtin _ (by decide +kernel), codeAny_builtin F.entry_type_call ?_⟩))
  rw [Around.under_plain (weight_type_call_type "set" [.ref l] []) rfl]
  repeat (any_goals (first | assumption | wp_step))
  refine codeAny_mono (code_set_led1 (.ref l) (E := E) (Q₁ := fun obj z => obj = .ref s.heap.objs.size ∧ z = { s with heap := s.heap.push (emptySet w) }) ⟨rfl, rfl⟩) fun r z hr => ?_
  rcases r with _ | fl
  case error => exact hr
  cases fl <;> first | exact hr.elim | skip
  obtain ⟨rfl, rfl⟩ := hr
  have at0 : (s.heap.push (emptySet w)).get? s.heap.objs.size = some (emptySet w) := Heap.get?_push_size _ rfl
  have ty0 : Shared.TypeIs { s with heap := s.heap.push (emptySet w) } (.ref s.heap.objs.size) "set" := ⟨_, at0, rfl⟩
  have li := F.called_set.init.lookup
  have bi := F.called_set.init.bind (.ref s.heap.objs.size)
  repeat (any_goals (first | assumption | wp_step))
  refine codeAny_mono (codeAny_call_builtin (R := wants (fun r z => r = .none ∧ Filled w s ns z) E) F.called_set.init.plain F.entry_set_init (check_set_init_1 ty0 ?_)) fun r z hz => ?_
  · obtain ⟨⟨_, od, _, os⟩, hol, hcl, nl, hdl⟩ := hl
    simp only at hcl hdl
    subst hcl
    subst hdl
    have keep : (s.heap.push (emptySet w)).get? l = some { cls := .type "list", dict := od, data := .seq items nl, slots := os } := Heap.get?_push_of_some _ hol
    have s1 := F.sub_list_set
    have s2 := F.sub_list_frozenset
    have s3 : (Value.type "list" == Value.type "dict") = false := by decide
    have isl : (s.heap.push (emptySet w)).IsList l items := ⟨_, keep, rfl, nl, rfl⟩
    unfold Builtin.«set.__init__» noKeywords Builtin.Frozenset.updateFrom
    generalize hPI : pyIter = PI
    wp_walk
    subst hPI
    refine wpAny_pyIter_list isl (wpAny_bind (wpAny_runValue ?_))
    have lt : l < s.heap.objs.size := Heap.lt_size hol
    have sz : (s.heap.push (emptySet w)).objs.size = s.heap.objs.size + 1 := Heap.size_push ..
    have ne1 : l ≠ (s.heap.push (emptySet w)).objs.size := by rw [sz]; exact Nat.ne_of_lt (Nat.lt_succ_of_lt lt)
    have ne2 : s.heap.objs.size ∉ [(s.heap.push (emptySet w)).objs.size, l] := by
      rw [sz]
      intro z
      rcases List.mem_cons.mp z with z | z
      · exact absurd z (Nat.ne_of_lt (Nat.lt_succ_self _))
      · exact absurd (List.mem_singleton.mp z) (Nat.ne_of_gt lt)
    have each : ∀ (i : Nat) (v : Value), items[i]? = some v → ∃ k t, ns[i]? = some k ∧ v = .int k t := fun i v hv => by
      have hi : i < ns.length := size ▸ (Array.getElem?_eq_some_iff.mp hv).1
      obtain ⟨t, e⟩ := IntsAre.int_at hit i v (by rw [Array.getElem?_toList]; exact hv)
      exact ⟨ns[i], t, List.getElem?_eq_getElem hi, by rw [e, List.getD_eq_getElem?_getD, List.getElem?_eq_getElem hi]; rfl⟩
    refine set_update_ints ((Walks.list (show A.in1.in1.in1.handled = none by simp [hh]) _ l ne1 items).toS) s.heap.objs.size ne2 ns size hb each (items.size - 0) 0 _ (by omega) (Nat.zero_le _) ⟨⟨_, Heap.get?_push_size _ rfl, rfl, rfl⟩, isl.push _⟩ ⟨0, Nat.le_refl 0, setR_new_at (Heap.get?_push_of_some _ at0)⟩ fun s' c hm hc hS => ?_
    obtain ⟨h', g, d, tk, o⟩ := s'
    cases (show g = s.gens from hm.gens)
    cases (show d = s.drawn from hm.drawn)
    cases (show o = s.os from hm.os)
    refine (show wpAny _ _ _ _ _ _ from wpAny_pure (show wpAny _ _ (ret Value.none) _ _ _ from wpAny_pure ⟨rfl, h', tk, c, rfl, hS, size ▸ hc, fun b o e => ?_⟩))
    have hb0 : b < s.heap.objs.size := Heap.lt_size e
    refine hm.heap b o (fun z => ?_) (Heap.get?_push_of_some _ (Heap.get?_push_of_some _ e))
    rcases List.mem_cons.mp z with z | z
    · exact absurd z (Nat.ne_of_lt hb0)
    · exact absurd ((List.mem_singleton.mp z).trans sz) (Nat.ne_of_lt (Nat.lt_succ_of_lt hb0))
  · rcases r with _ | fl
    case error => exact hz
    cases fl <;> first | exact hz.elim | skip
    obtain ⟨rfl, f⟩ := hz
    obtain ⟨h', tk, c, rfl, hS, hc, k⟩ := id f
    repeat (any_goals (first | assumption | wp_step))
    exact hq _ ⟨_, _, _, rfl, hS, hc, k⟩
end
section
variable {X : Cx}
/-- set(xs), at most 60 ints: a set of just these -/
def rSetLi (K : PySem.W.Frag) (w : World) : List V → Hp → VK → Prop := fun xs H Q => ∃ (a : Addr) (ns : List Int), xs = [V.ref a] ∧ SqL K H a (ns.map V.int) ∧ ns.length ≤ 1000 ∧
  ∀ (p : Addr) (c : Nat), H p = none → c ≤ ns.length → Q (.ref p) (upd H p (SetO w p (fun k => decide (k ∈ ns)) c))
theorem cr_setLi (hc : X.calm = true) : CallR X (.type "set") (rSetLi X.K X.w) := by
  intro pins s σ H vs us Q I r h
  obtain ⟨a, ns, rfl, hS, hl, q⟩ := h
  rw [Vals.ref1 r]
  obtain ⟨its, rv, pl, hz⟩ := I.list hS
  refine call_set_li ns (I.ok.hd hc) pl.isList (by simpa using Vals.ints rv) (by unfold scanBound; omega) fun s' f => ?_
  obtain ⟨h', tk, c, rfl, R, hcn, k⟩ := f
  have hn : H s.heap.objs.size = none := I.hok.fresh (Nat.le_refl _)
  have J : Inv X pins σ (upd H s.heap.objs.size (SetO X.w s.heap.objs.size (fun k => decide (k ∈ ns)) c)) { s with heap := h', toks := tk } := I.laid (t' := tk) k (Nat.le_refl _) (setO_new R)
  exact ⟨.ref s.heap.objs.size, _, J, rfl, q _ _ hn hcn⟩
end
end Pot

/-! The rules whose readings name the written part, with it as a letter of its own. -/
namespace Pot
open PySem PySem.Spec PyProof.Rows L2
section
variable {X : Cx} {K : PySem.W.Frag}
theorem kx_list (h : X.K = K := by rfl) : IxR X (rIxL K) := h ▸ ix_list
theorem kx_tup (h : X.K = K := by rfl) : IxR X (rIxT K) := h ▸ ix_tup
theorem kl_list (h : X.K = K := by rfl) : SlR X (rSlL K) := h ▸ sl_list
theorem kl_tup (h : X.K = K := by rfl) : SlR X (rSlA K) := h ▸ sl_tupA
theorem ko_in (h : X.K = K := by rfl) : OpR X (compareOp .In) (rIn K false) := h ▸ op_in_seq
theorem ko_eq (hu : X.A.units + 64 < cLine) (h : X.K = K := by rfl) : OpR X (compareOp .Eq) (rEqD K) := h ▸ op_eqD hu
theorem ko_ne (hu : X.A.units + 64 < cLine) (h : X.K = K := by rfl) : OpR X (compareOp .NotEq) (rNeD K) := h ▸ op_neD hu
def rLen (K : PySem.W.Frag) : List V → Hp → VK → Prop := fun xs H Q => ∃ x n, xs = [x] ∧ LenV K x H n ∧ Q (.int n) H
theorem kc_len (h : X.K = K := by rfl) : CallR X (.builtin "len") (rLen K) := by subst h; exact call_len
def rListOf (K : PySem.W.Frag) : List V → Hp → VK → Prop := fun xs H Q => ∃ p ys, xs = [.ref p] ∧ (SqL K H p ys ∨ SqT K H p ys) ∧ ∀ l, H l = none → Q (.ref l) (upd H l (.lst ys))
theorem kc_list (h : X.K = K := by rfl) : CallR X (.type "list") (rListOf K) := by subst h; exact call_list_of
def rTupleOf (K : PySem.W.Frag) : List V → Hp → VK → Prop := fun xs H Q => ∃ p ys, xs = [.ref p] ∧ ((SqL K H p ys ∧ ∀ l, H l = none → Q (.ref l) (upd H l (.tup ys))) ∨ (SqT K H p ys ∧ Q (.ref p) H))
theorem kc_tuple (h : X.K = K := by rfl) : CallR X (.type "tuple") (rTupleOf K) := by subst h; exact call_tuple_of
theorem kc_sum (hc : X.calm = true := by rfl) (h : X.K = K := by rfl) : CallR X (.builtin "sum") (rSum K) := h ▸ cr_sum hc
theorem kc_all (hc : X.calm = true := by rfl) (h : X.K = K := by rfl) : CallR X (.builtin "all") (rAll K) := h ▸ cr_all hc
theorem kc_any (hc : X.calm = true := by rfl) (h : X.K = K := by rfl) : CallR X (.builtin "any") (rAny K) := h ▸ cr_any hc
theorem kc_sorted (h : X.K = K := by rfl) : CallR X (.builtin "sorted") (rSorted K) := h ▸ cr_sorted
theorem kc_sortedS (h : X.K = K := by rfl) : CallR X (.builtin "sorted") (rSortedS K) := h ▸ cr_sortedS
theorem kc_isi (h : X.K = K := by rfl) : CallR X (.builtin "isinstance") (rIsi K) := h ▸ call_isi
theorem kc_isiT (h : X.K = K := by rfl) : CallR X (.builtin "isinstance") (rIsiT K) := h ▸ call_isiT
theorem kc_repr (gd : X.A.guards = some []) (hu : X.A.units + 64 < cLine) (h : X.K = K := by rfl) : CallR X (.builtin "repr") (rRepr K) := h ▸ cr_repr gd hu
theorem kc_setLi {w : World} (hc : X.calm = true := by rfl) (h : X.K = K := by rfl) (hw : X.w = w := by rfl) : CallR X (.type "set") (rSetLi K w) := by subst h; subst hw; exact cr_setLi hc
theorem kc_sortedSet {w : World} (hc : X.calm = true := by rfl) (hw : X.w = w := by rfl) : CallR X (.builtin "sorted") (rSortedSet w) := hw ▸ cr_sortedSet hc
theorem ki_list {tg l : Expr} {tl : TE} (hl : PE X l tl) (h : X.K = K := by rfl) : PI X tg l (iList K tl) := h ▸ pi_list hl
theorem ki_tup {tg l : Expr} {tl : TE} (hl : PE X l tl) (h : X.K = K := by rfl) : PI X tg l (iTup K tl) := h ▸ pi_tup hl
theorem ki_zip {e e2 : Expr} {ta : TA} {p pos tpos : Pos} {elts : List Expr} {kk : Nat} (hg : Gl X "zip") (hm : X.mg "zip" = none) (ha : PA X [e, e2] ta) (hs : starEach [e, e2] X.env = (false, eval e X.env) :: starEach [e2] X.env := by rfl)
    (hpl : (backTo pos (starEach [e2] X.env)).any (·.1) = false := by rfl) (h : X.K = K := by rfl) : PI X (.Tuple elts kk tpos) (.Call (.Name "zip" p) [e, e2] [] pos) (RZ.iZipA K ta) := h ▸ RZ.pi_zipA hg hm ha hs hpl
theorem ki_enum {e : Expr} {ta : TA} {p pos tpos : Pos} {elts : List Expr} {kk : Nat} (hg : Gl X "enumerate") (hm : X.mg "enumerate" = none) (ha : PA X [e] ta) (hs : starEach [e] X.env = [(false, eval e X.env)] := by rfl) (h : X.K = K := by rfl)
    : PI X (.Tuple elts kk tpos) (.Call (.Name "enumerate" p) [e] [] pos) (iEnum K ta) := h ▸ pi_enum hg hm ha hs
theorem kg_tup {pos : Pos} {es : List Expr} {k : Nat} {t : TGs} {n : Nat} (h : PGs X es t) (hc : X.calm = true := by rfl) (hn : (assignEach es X.env).length = n := by rfl) (hst : (assignEach es X.env).findIdx? (·.1) = none := by rfl) (hk : X.K = K := by rfl) : PG X (.Tuple es k pos) (gTup K n t) := hk ▸ pg_tup hc h hn hst
def tTru (K : PySem.W.Frag) (ta : TE) : TT := fun σ H Q => ta σ H fun x H' => ∃ k, TruV K x H' k ∧ Q k H'
theorem kt_truth {a : Expr} {ta : TE} (ha : PE X a ta) (he : ∀ whole, isTrue a X.env whole = (do let v ← whole; standAt a.pos; holding [v] (truthy v)) := by intro _; rfl) (h : X.K = K := by rfl) : PT X a (tTru K ta) := by subst h; exact pt_truth ha he
def rJoin (K : PySem.W.Frag) : V → List V → Hp → VK → Prop := fun x xs H Q => ∃ a p, ∃ ys : List Str, x = .str a ∧ xs = [.ref p] ∧ (SqL K H p (ys.map V.str) ∨ SqT K H p (ys.map V.str)) ∧ (ys.map (·.length)).sum + ys.length * a.length ≤ 16777216 ∧ Q (.str (Txt.join a ys)) H
theorem ke_join {o e : Expr} {to te : TE} {apos pos : Pos} (ho : PE X o to) (he : PE X e te) (hs : starEach [e] X.env = [(false, eval e X.env)] := by rfl) (hbase : attributeBase o "join" X.env (eval o X.env) = eval o X.env := by rfl) (hline : (apos.endLine == pos.line) = true := by rfl) (h : X.K = K := by rfl) :
    PE X (.Call (.Attribute o "join" apos) [e] [] pos) (tM1 (rJoin K) to te) := by subst h; exact pe_join ho he hs hbase hline
theorem pss_never {st : List Stmt} : PSs X st (fun _ _ _ => False) := ⟨fun _ _ _ _ _ _ h => h.elim⟩
theorem ps_never {st : Stmt} : PS X st (fun _ _ _ => False) := ⟨fun _ _ _ _ _ _ h => h.elim⟩
theorem pe_never {e : Expr} : PE X e (fun _ _ _ => False) := ⟨fun _ _ _ _ _ _ h => h.elim⟩
theorem tYes_at {σ : L2.St} {H : Hp} {Q : Bool → Hp → Prop} (h : Q true H) : tYes σ H Q := h
end
end Pot

namespace Pot
open PySem PySem.Spec PyProof.Rows L2
/-- built-in names that the module gives no other meaning -/
structure Txt (mg : Str → Option Value) : Prop where
  len : mg "len" = none
  divmod : mg "divmod" = none
  range : mg "range" = none
  sum : mg "sum" = none
  all : mg "all" = none
  any : mg "any" = none
  isinstance : mg "isinstance" = none
  str : mg "str" = none
  int : mg "int" = none
  list : mg "list" = none
  tuple : mg "tuple" = none
  bool : mg "bool" = none
  zip : mg "zip" = none
  set : mg "set" = none
  sorted : mg "sorted" = none
  enumerate : mg "enumerate" = none
  repr : mg "repr" = none
  min : mg "min" = none
  max : mg "max" = none
  abs : mg "abs" = none
/-- a def that may be called by its name: what it keeps, at which level -/
def Cl (P : Program) (w : World) (K : PySem.W.Frag) (mg : Str → Option Value) (base : Heap) (k : Nat) (x : Str) (sp : Sp) : Prop :=
  ∃ (f : Addr) (fd : FuncData) (ps : List Str), FnOk P w K mg base CX0 k f fd ps sp ∧ mg x = some (.ref f) ∧ PySem.W.keepIn K (.ref f) = true ∧ Binds K fd ps []
theorem pe_cl {X : Cx} {k j : Nat} {x : Str} {sp : Sp} {e : Expr} {es : List Expr} {t : TA} {p pos : Pos} (c : Cl X.prog X.w X.K X.mg X.base k x sp) (hr : Room j X.A) (hk : k ≤ j) (hg : Gl X x) (ha : PA X (e :: es) t) (hdb : (x == ("__debug__" : Str)) = false := by decide)
    (he : starEach (e :: es) X.env = (false, eval e X.env) :: starEach es X.env := by rfl) (hpl : (backTo pos (starEach es X.env)).any (·.1) = false := by rfl) : PE X (.Call (.Name x p) (e :: es) [] pos) (tCall sp [] E0 t) := by
  obtain ⟨f, fd, ps, G, hm, kp, b⟩ := c
  exact pe_call G (hr.mono hk) hg hm kp b .nil pass0 ha hdb he hpl
/-! ### the drawing state -/
def dS (c : Addr) (t : Int) : List (Key × V) := [(Sum.inr "cells", .ref c), (Sum.inr "turn", .int t)]
/-- at d stands a state of the law: its cells at c, its turn at most n -/
def StAt (H : Hp) (d c : Addr) (n : Nat) : Prop := d ≠ c ∧ ∃ (xs : List Int) (t : Int),
  H d = some (.dK (dS c t)) ∧ H c = some (.lst (xs.map V.int)) ∧ xs ≠ [] ∧ xs.length ≤ 63 ∧ 0 ≤ t ∧ t ≤ n
/-- all that was tracked stands, but d and c -/
def Kp (d c : Addr) (H H' : Hp) : Prop := ∀ b o, b ≠ d → b ≠ c → H b = some o → H' b = some o
theorem Kp.refl (d c : Addr) (H : Hp) : Kp d c H H := fun _ _ _ _ e => e
theorem Kp.trans {d c : Addr} {H H1 H2 : Hp} (a : Kp d c H H1) (b : Kp d c H1 H2) : Kp d c H H2 := fun x o h1 h2 e => b x o h1 h2 (a x o h1 h2 e)
theorem Kp.of {d c : Addr} {H H' : Hp} (s : Same H H') : Kp d c H H' := fun x o _ _ e => s x o e
theorem same_upd {H : Hp} {p : Addr} {o : HO} (h : H p = none) : Same H (upd H p o) := fun b x e => by
  rw [upd_ne (ne_of_none e h)]
  exact e
theorem same_put {H H' : Hp} {p : Addr} {o : HO} (s : Same H H') (h : H p = none) : Same H (upd H' p o) := fun b x e => by
  rw [upd_ne (ne_of_none e h)]
  exact s b x e
theorem kp_put {d c : Addr} {H H' : Hp} {p : Addr} {o : HO} (s : Kp d c H H') (h : H p = none) : Kp d c H (upd H' p o) := fun b x h1 h2 e => by
  rw [upd_ne (ne_of_none e h)]
  exact s b x h1 h2 e
theorem StAt.mono {H : Hp} {d c : Addr} {n m : Nat} (h : StAt H d c n) (k : n ≤ m) : StAt H d c m := by
  obtain ⟨h0, xs, t, h1, h2, h3, h4, h5, h6⟩ := h
  exact ⟨h0, xs, t, h1, h2, h3, h4, h5, by omega⟩
theorem StAt.same {H H' : Hp} {d c : Addr} {n : Nat} (h : StAt H d c n) (s : Same H H') : StAt H' d c n := by
  obtain ⟨h0, xs, t, h1, h2, h3, h4, h5, h6⟩ := h
  exact ⟨h0, xs, t, s _ _ h1, s _ _ h2, h3, h4, h5, h6⟩
theorem Kp.free {d c : Addr} {H H' : Hp} {n : Nat} {l : Addr} (k : Kp d c H H') (s : StAt H' d c n) (h : H' l = none) : H l = none := by
  obtain ⟨_, xs, t, h1, h2, _⟩ := s
  have n1 : l ≠ d := (ne_of_none h1 h).symm
  have n2 : l ≠ c := (ne_of_none h2 h).symm
  cases e : H l with
  | none => rfl
  | some o =>
    rw [k l o n1 n2 e] at h
    cases h
theorem StAt.ne1 {H : Hp} {d c : Addr} {n : Nat} {l : Addr} (s : StAt H d c n) (h : H l = none) : d ≠ l := by
  obtain ⟨_, xs, t, h1, h2, _⟩ := s
  exact ne_of_none h1 h
theorem StAt.ne2 {H : Hp} {d c : Addr} {n : Nat} {l : Addr} (s : StAt H d c n) (h : H l = none) : c ≠ l := by
  obtain ⟨_, xs, t, h1, h2, _⟩ := s
  exact ne_of_none h2 h
theorem StAt.put {H : Hp} {d c : Addr} {n : Nat} {l : Addr} {o : HO} (s : StAt H d c n) (n1 : d ≠ l) (n2 : c ≠ l) : StAt (upd H l o) d c n := by
  obtain ⟨h0, xs, t, h1, h2, h3, h4, h5, h6⟩ := s
  exact ⟨h0, xs, t, by rw [upd_ne n1]; exact h1, by rw [upd_ne n2]; exact h2, h3, h4, h5, h6⟩
theorem val_turn (c : Addr) (t : Int) : valV (dS c t) (Sum.inr "turn") = some (.int t) := by
  have e : ¬ ((Sum.inr (Str.ofString "cells") : Key) = Sum.inr (Str.ofString "turn")) := by decide +kernel
  unfold dS; rw [valV_neg e, valV_pos rfl]
theorem val_cells (c : Addr) (t : Int) : valV (dS c t) (Sum.inr "cells") = some (.ref c) := by
  unfold dS; rw [valV_pos rfl]
theorem put_turn (c : Addr) (t u : Int) : putK (dS c t) (Sum.inr "turn") (.int u) = dS c u := by
  have e : ¬ ((Sum.inr (Str.ofString "cells") : Key) = Sum.inr (Str.ofString "turn")) := by decide +kernel
  unfold putK dS
  simp [e]

theorem dget_turn {H : Hp} {d c : Addr} {t : Int} (h : H d = some (.dK (dS c t))) : DGet H d (.str "turn") (some (.int t)) := by
  rw [← val_turn c t]; exact DGet.k (k := Sum.inr "turn") h
theorem dget_cells {H : Hp} {d c : Addr} {t : Int} (h : H d = some (.dK (dS c t))) : DGet H d (.str "cells") (some (.ref c)) := by
  rw [← val_cells c t]; exact DGet.k (k := Sum.inr "cells") h
theorem dput_turn {H : Hp} {d c : Addr} {t : Int} (u : Int) (h : H d = some (.dK (dS c t))) : DPut H d (.str "turn") (.int u) (upd H d (.dK (dS c u))) := by
  rw [← put_turn c t u]; exact DPut.k (k := Sum.inr "turn") h (by show 2 < sizeLine; decide)
theorem ge18 (x : Int) : (decide ((10 : Int) ^ (18 : Int).toNat ≤ x) = true) ↔ 1000000000000000000 ≤ x := by
  have e : (10 : Int) ^ (18 : Int).toNat = 1000000000000000000 := by decide
  rw [e, decide_eq_true_eq]
theorem cmul_mod (a b : Int) {m : Int} (h0 : 0 < m) (h1 : m < 2 ^ 64) : CMul (a % m) b := by
  have p := Int.emod_nonneg a (show m ≠ 0 by omega)
  have q := Int.emod_lt_of_pos a h0
  exact .inl ⟨by omega, by omega⟩
theorem mod_at {xs : List Int} {u : Int} (hx : xs ≠ []) : ∃ (j : Nat) (y : Int), u % ((xs.map V.int).length : Int) = (j : Int) ∧ j < xs.length ∧ xs[j]? = some y := by
  have h0 : 0 < xs.length := List.length_pos_iff.mpr hx
  rw [List.length_map]
  have a := Int.emod_nonneg u (show (xs.length : Int) ≠ 0 by omega)
  have b := Int.emod_lt_of_pos u (show (0 : Int) < (xs.length : Int) by omega)
  refine ⟨(u % (xs.length : Int)).toNat, xs[(u % (xs.length : Int)).toNat]'(by omega), by omega, by omega, ?_⟩
  exact List.getElem?_eq_getElem _

section
variable {K : PySem.W.Frag}
theorem cut63 {xs : List V} (h : xs.length ≤ 63) : cutV xs none (some 63) = xs := by
  unfold cutV
  rw [HT.sIx_none, show HT.sIx xs.length xs.length (some 63) = min 63 xs.length from HT.sIx_nat xs.length xs.length 63, Nat.min_eq_right h]
  simp
theorem dp_ints {H : Hp} (ns : List Int) : DpAll K H (ns.map V.int) (ns.map PyData.int) := by
  induction ns with
  | nil => exact .nil
  | cons n r ih => exact .cons (.int n) ih
theorem same_tup {H H' : Hp} {a : Addr} {xs : List V} (e : Same H H') (h : SqT K H a xs) : SqT K H' a xs := by
  rcases h with (h | ⟨o, h⟩) | h
  · exact .inl (.inl (e _ _ h))
  · exact .inl (.inr ⟨o, e _ _ h⟩)
  · exact .inr h
mutual
theorem dp_same {H H' : Hp} (s : Same H H') : ∀ {v : V} {d : PyData}, Dp K H v d → Dp K H' v d
  | _, _, .non => .non
  | _, _, .bl b => .bl b
  | _, _, .int i => .int i
  | _, _, .str x => .str x
  | _, _, .lst h a => .lst (s.seq h) (dpAll_same s a)
  | _, _, .tup h a => .tup (same_tup s h) (dpAll_same s a)
theorem dpAll_same {H H' : Hp} (s : Same H H') : ∀ {vs : List V} {ds : List PyData}, DpAll K H vs ds → DpAll K H' vs ds
  | _, _, .nil => .nil
  | _, _, .cons h t => .cons (dp_same s h) (dpAll_same s t)
end
theorem dpAll_len {H : Hp} : ∀ {vs : List V} {ds : List PyData}, DpAll K H vs ds → vs.length = ds.length
  | _, _, .nil => rfl
  | _, _, .cons _ t => by rw [List.length_cons, List.length_cons, dpAll_len t]
theorem dpAll_at {H : Hp} : ∀ {vs : List V} {ds : List PyData} {i : Nat} {v : V}, DpAll K H vs ds → vs[i]? = some v → ∃ d, ds[i]? = some d ∧ Dp K H v d
  | _, _, _, _, .nil, h => by simp at h
  | _, _, 0, _, .cons h _, e => ⟨_, rfl, by cases e; exact h⟩
  | _, _, i + 1, _, .cons _ t, e => dpAll_at (i := i) t e
theorem depth_at : ∀ {ds : List PyData} {i : Nat} {d : PyData}, ds[i]? = some d → d.depth ≤ PyData.depthAll ds
  | [], _, _, h => by simp at h
  | x :: r, 0, d, h => by cases h; unfold PyData.depthAll; exact Nat.le_max_left ..
  | x :: r, i + 1, d, h => by
    have := depth_at (ds := r) (i := i) (d := d) h
    unfold PyData.depthAll
    exact Nat.le_trans this (Nat.le_max_right ..)
theorem tyx_list {H : Hp} {a : Addr} {xs : List V} (h : SqL K H a xs) : TyX K H (.ref a) (.type "list") := by
  rcases h with (h | ⟨o, h⟩) | ⟨o, its, n, h1, h2, _⟩
  · exact .base (.lst h)
  · exact .base (.frz h)
  · exact .kList h1 h2
theorem tyx_tup {H : Hp} {a : Addr} {xs : List V} (h : SqT K H a xs) : TyX K H (.ref a) (.type "tuple") := by
  rcases h with (h | ⟨o, h⟩) | ⟨o, its, n, h1, h2, _⟩
  · exact .base (.tup h)
  · exact .fTuple h
  · exact .kTuple h1 h2
theorem walk_zipT {a b : Addr} {xs ys : List V} {n : Nat} (hn : n = min xs.length ys.length) : Walk (RZ.ItzT K a b) n (fun H => SqT K H a xs ∧ SqT K H b ys) (YPair (fun i => xs[i]?) (fun i => ys[i]?)) := by
  subst hn
  refine ⟨fun i _ hi q => ?_, fun _ q => ⟨xs, ys, q.1, q.2, by omega⟩, fun i H v H' _ q y => ?_⟩
  · exact ⟨xs, ys, xs[i]'(by omega), ys[i]'(by omega), q.1, q.2, List.getElem?_eq_getElem _, List.getElem?_eq_getElem _⟩
  · obtain ⟨T, x, z, e1, e2, e3, e4, e5⟩ := y
    exact ⟨T, x, z, e1, e2, e3, e4 xs q.1, e5 ys q.2⟩
/-- the longest list within -/
def widAll : List PyData → Nat
  | [] => 0
  | x :: xs => max (wid x) (widAll xs)
where wid : PyData → Nat
  | .list xs => max xs.length (widAll xs)
  | .tuple xs => max xs.length (widAll xs)
  | _ => 0
theorem wid_at : ∀ {ds : List PyData} {i : Nat} {d : PyData}, ds[i]? = some d → widAll.wid d ≤ widAll ds
  | [], _, _, h => by simp at h
  | x :: r, 0, d, h => by cases h; unfold widAll; exact Nat.le_max_left ..
  | x :: r, i + 1, d, h => by
    have := wid_at (ds := r) (i := i) (d := d) h
    unfold widAll
    exact Nat.le_trans this (Nat.le_max_right ..)
theorem depth_ints (ns : List Int) : (PyData.list (ns.map PyData.int)).depth = 1 := by
  have h : ∀ l : List Int, PyData.depthAll (l.map PyData.int) = 0 := by
    intro l
    induction l with
    | nil => rfl
    | cons x r ih =>
      show max 0 (PyData.depthAll (r.map PyData.int)) = 0
      rw [ih]
      rfl
  show PyData.depthAll (ns.map PyData.int) + 1 = 1
  rw [h]
theorem wid_ints (ns : List Int) : widAll.wid (PyData.list (ns.map PyData.int)) = ns.length := by
  have h : ∀ l : List Int, widAll (l.map PyData.int) = 0 := by
    intro l
    induction l with
    | nil => rfl
    | cons x r ih =>
      show max 0 (widAll (r.map PyData.int)) = 0
      rw [ih]
      rfl
  show max (ns.map PyData.int).length (widAll (ns.map PyData.int)) = ns.length
  rw [h, List.length_map, Nat.max_zero]
theorem flat_ints (ns : List Int) : (ns.map V.int).all flatV = true := by
  rw [List.all_eq_true]
  intro x hx
  obtain ⟨k, _, rfl⟩ := List.mem_map.mp hx
  rfl
end
section
variable {P : Program} {w : World} {K : PySem.W.Frag} {mg : Str → Option Value} {base : Heap}
/-- a def with values that may be left out -/
abbrev FunV (K : PySem.W.Frag) (x : Str) (st : Stmt) (dvs : List V) (f : Addr) (fd : FuncData) : Prop := FunD K x x (defArgs st) (defBody st) (defScope st) dvs [] f fd
theorem okD {x : Str} {st : Stmt} {dvs : List V} {f : Addr} {fd : FuncData} {N ps : List Str} {k : Nat} {sp : Sp} (F : FunV K x st dvs f fd) (S : FnScope N ps (defScope st)) (len : ∀ vs H Q E, sp vs H Q E → vs.length = ps.length)
    (body : ∀ (cdv : Value) (A : Around) (outer : List Env) (s : Shared) (H : Hp) (vs : List V) (Q : VK) (E : XK), Room k (A.deeper (envOfC x (defScope st) s.heap.objs.size f cdv)) → sp vs H Q E →
      ∃ t, PSs (cxOf CX0 P w K mg base N x (defScope st) f cdv A outer s H E).nox (defBody st) t ∧ t { nx := fun _ H' => Q .non H', rt := Q } (start N vs) H) : FnOk P w K mg base CX0 (k + 1) f fd ps sp :=
  FunD.ok F S len fun cdv A outer s H vs Q E hr h => by
    obtain ⟨t, ht, hq⟩ := body cdv A outer s H vs Q E hr h
    exact ⟨t, ht.nox, hq⟩
/-- a def that may be called by its name, the values ds being left out -/
def ClD (P : Program) (w : World) (K : PySem.W.Frag) (mg : Str → Option Value) (base : Heap) (k : Nat) (x : Str) (ds : List V) (sp : Sp) : Prop :=
  ∃ (f : Addr) (fd : FuncData) (ps : List Str) (dus : List Value), FnOk P w K mg base CX0 k f fd ps sp ∧ mg x = some (.ref f) ∧ PySem.W.keepIn K (.ref f) = true ∧ Binds K fd ps dus ∧ Vals ds dus
theorem pe_cd {X : Cx} {k j : Nat} {x : Str} {ds : List V} {sp : Sp} {e : Expr} {es : List Expr} {t : TA} {p pos : Pos} (c : ClD X.prog X.w X.K X.mg X.base k x ds sp) (hr : Room j X.A) (hk : k ≤ j) (hg : Gl X x) (ha : PA X (e :: es) t) (hdb : (x == ("__debug__" : Str)) = false := by decide)
    (he : starEach (e :: es) X.env = (false, eval e X.env) :: starEach es X.env := by rfl) (hpl : (backTo pos (starEach es X.env)).any (·.1) = false := by rfl) : PE X (.Call (.Name x p) (e :: es) [] pos) (tCall sp ds E0 t) := by
  obtain ⟨f, fd, ps, dus, G, hm, kp, b, dv⟩ := c
  exact pe_call G (hr.mono hk) hg hm kp b dv pass0 ha hdb he hpl
theorem Cl.mono {k j : Nat} {x : Str} {sp : Sp} (c : Cl P w K mg base k x sp) (h : k ≤ j) : Cl P w K mg base j x sp := by
  obtain ⟨f, fd, ps, G, r⟩ := c
  exact ⟨f, fd, ps, G.mono h, r⟩
end
end Pot

namespace Pot
open PySem PySem.Spec PyProof.Rows L2
/-! ### a box of three numbers from which is drawn, and all that stands beside it -/
def Bx (H : Hp) (b : Addr) : Prop := ∃ x y z : Int, H b = some (.lst [.int x, .int y, .int z])
/-- the heap without some -/
def off (H : Hp) (S : List Addr) : Hp := fun x => if x ∈ S then none else H x
theorem off_in {H : Hp} {S : List Addr} {x : Addr} (h : x ∈ S) : off H S x = none := if_pos h
theorem off_out {H : Hp} {S : List Addr} {x : Addr} (h : x ∉ S) : off H S x = H x := if_neg h
theorem off_mem {H : Hp} {S : List Addr} {x : Addr} {o : HO} (h : off H S x = some o) : x ∉ S := fun e => by rw [off_in e] at h; cases h
theorem off_sub {H : Hp} {S : List Addr} : Same (off H S) H := fun x o h => by
  have n := off_mem h
  rw [off_out n] at h; exact h
theorem off_mono {H : Hp} {S T : List Addr} (h : ∀ x ∈ T, x ∈ S) : Same (off H S) (off H T) := fun x o e => by
  have n := off_mem e
  rw [off_out n] at e
  rw [off_out fun z => n (h x z)]; exact e
/-- what stands beside S stands -/
abbrev Sm (S : List Addr) (H H' : Hp) : Prop := Same (off H S) (off H' S)
theorem sm_mono {H H' : Hp} {S T : List Addr} (h : ∀ x ∈ T, x ∈ S) (s : Sm T H H') : Sm S H H' := fun x o e => by
  have n := off_mem e
  rw [off_out n] at e ⊢
  have n2 : x ∉ T := fun z => n (h x z)
  have := s x o (by rw [off_out n2]; exact e)
  rw [off_out n2] at this; exact this
theorem sm_one {H H' : Hp} {S : List Addr} {b : Addr} (h : b ∈ S) (s : Sm [b] H H') : Sm S H H' := sm_mono (fun x hx => by rw [List.mem_singleton.mp hx]; exact h) s
theorem sm_of {H H' : Hp} {S : List Addr} (s : Same H H') : Sm S H H' := fun x o h => by
  have n := off_mem h
  rw [off_out n] at h ⊢; exact s x o h
theorem sm_put {H : Hp} {S : List Addr} {p : Addr} {o : HO} (h : H p = none) : Sm S H (upd H p o) := sm_of (same_upd h)
theorem sm_wr {H : Hp} {S : List Addr} {p : Addr} {o : HO} (h : p ∈ S) : Sm S H (upd H p o) := fun x u e => by
  have n := off_mem e
  rw [off_out n] at e ⊢
  have ne : x ≠ p := fun z => n (by rw [z]; exact h)
  rw [upd_ne ne]; exact e
theorem at_off {H : Hp} {S : List Addr} {x : Addr} {o : HO} (h : off H S x = some o) : H x = some o := off_sub x o h
theorem Bx.bx {H : Hp} {b : Addr} (B : Bx H b) : Bx H b := B
theorem Bx.ne {H : Hp} {b p : Addr} (B : Bx H b) (h : H p = none) : p ≠ b := fun e => by
  obtain ⟨x, y, z, B⟩ := B
  rw [e, B] at h; cases h
theorem Bx.same {H H' : Hp} {b : Addr} (B : Bx H b) (s : Same H H') : Bx H' b := by
  obtain ⟨x, y, z, B⟩ := B
  exact ⟨x, y, z, s _ _ B⟩
theorem Bx.put {H : Hp} {b p : Addr} {o : HO} (B : Bx H b) (h : H p = none) : Bx (upd H p o) b := B.same (same_upd h)
theorem Bx.wr {H : Hp} {b p : Addr} {o : HO} (B : Bx H b) (h : p ≠ b) : Bx (upd H p o) b := by
  obtain ⟨x, y, z, B⟩ := B
  exact ⟨x, y, z, by rw [upd_ne h.symm]; exact B⟩
/-- all of S are there -/
def Live (S : List Addr) (H : Hp) : Prop := ∀ s ∈ S, H s ≠ none
theorem Live.same {S : List Addr} {H H' : Hp} (L : Live S H) (s : Same H H') : Live S H' := fun x hx e => by
  cases h : H x with
  | none => exact L x hx h
  | some o => rw [s x o h] at e; cases e
theorem Live.box {S : List Addr} {H H' : Hp} {b : Addr} (L : Live S H) (B : Bx H' b) (s : Sm [b] H H') : Live S H' := fun x hx e => by
  by_cases hb : x = b
  · obtain ⟨_, _, _, B⟩ := B
    rw [hb, B] at e; cases e
  · have n : x ∉ [b] := fun z => hb (List.mem_singleton.mp z)
    cases h : H x with
    | none => exact L x hx h
    | some o =>
      have := s x o (by rw [off_out n]; exact h)
      rw [off_out n, e] at this; cases this
theorem Live.put {S : List Addr} {H : Hp} {p : Addr} {o : HO} (L : Live S H) (h : H p = none) : Live S (upd H p o) := L.same (same_upd h)
theorem Live.wr {S : List Addr} {H : Hp} {p : Addr} {o : HO} (L : Live S H) : Live S (upd H p o) := fun x hx e => by
  by_cases hp : x = p
  · rw [hp, upd_same] at e; cases e
  · rw [upd_ne hp] at e; exact L x hx e
theorem Live.one {H : Hp} {b : Addr} (B : Bx H b) : Live [b] H := fun x hx e => by
  obtain ⟨_, _, _, B⟩ := B
  rw [List.mem_singleton.mp hx, B] at e; cases e
theorem Live.out {S : List Addr} {H : Hp} {p : Addr} (L : Live S H) (h : H p = none) : p ∉ S := fun z => L p z h
theorem Live.cons {S : List Addr} {H : Hp} {p : Addr} {o : HO} (L : Live S H) (h : H p = some o) : Live (p :: S) H := fun x hx e => by
  rcases List.mem_cons.mp hx with z | z
  · rw [z, h] at e; cases e
  · exact L x z e
theorem off_new {H : Hp} {S : List Addr} {p : Addr} {o : HO} (L : Live S H) (h : H p = none) : off (upd H p o) S p = some o := by
  rw [off_out (L.out h)]; exact upd_same
theorem off_upd {H : Hp} {S : List Addr} {p : Addr} {o : HO} (h : p ∉ S) : off (upd H p o) S p = some o := by
  rw [off_out h]; exact upd_same
section
variable {K : PySem.W.Frag}
theorem sq_off {H : Hp} {S : List Addr} {a : Addr} {xs : List V} (h : SqL K (off H S) a xs) : SqL K H a xs := off_sub.seq h
theorem sqt_off {H : Hp} {S : List Addr} {a : Addr} {xs : List V} (h : SqT K (off H S) a xs) : SqT K H a xs := same_tup off_sub h
theorem dp_off {H : Hp} {S : List Addr} {v : V} {d : PyData} (h : Dp K (off H S) v d) : Dp K H v d := dp_same off_sub h
/-- a new list is none of S, beside which the rest stands as it was -/
theorem off_fresh {H : Hp} {S : List Addr} {p : Addr} {o : HO} (h : H p = none) : off (upd H p o) (p :: S) = off H S := by
  funext x; unfold off
  by_cases e : x = p
  · subst e
    rw [if_pos List.mem_cons_self, h]
    split <;> rfl
  · have : (x ∈ p :: S) ↔ x ∈ S := by rw [List.mem_cons]; exact ⟨fun z => z.resolve_left e, .inr⟩
    by_cases m : x ∈ S
    · rw [if_pos m, if_pos (this.mpr m)]
    · rw [if_neg m, if_neg fun z => m (this.mp z), upd_ne e]
end
/-! ### what is made of numbers, texts, truths, None, lists and tuples -/
/-- numbers within m, texts of at most 2000 signs -/
def gdAll (m : Nat) : List PyData → Prop
  | [] => True
  | x :: xs => gd m x ∧ gdAll m xs
where gd (m : Nat) : PyData → Prop
  | .none => True
  | .bool _ => True
  | .int i => i.natAbs ≤ m
  | .str x => x.length ≤ 2000 ∧ ∀ c ∈ x.cps.toList, c < 1114112
  | .list xs => gdAll m xs
  | .tuple xs => gdAll m xs
  | .dict _ => False
abbrev gd (m : Nat) (d : PyData) : Prop := gdAll.gd m d
theorem gdAll_iff {m : Nat} : ∀ {ds : List PyData}, gdAll m ds ↔ ∀ d ∈ ds, gd m d
  | [] => ⟨fun _ _ h => (List.not_mem_nil h).elim, fun _ => trivial⟩
  | x :: xs => by
    constructor
    · intro h d hd
      rcases List.mem_cons.mp hd with e | e
      · rw [e]; exact h.1
      · exact gdAll_iff.mp h.2 d e
    · intro h
      exact ⟨h x List.mem_cons_self, gdAll_iff.mpr fun d hd => h d (List.mem_cons_of_mem _ hd)⟩
mutual
theorem gd_mono {m n : Nat} (h : m ≤ n) : ∀ d : PyData, gd m d → gd n d
  | .none, _ => trivial
  | .bool _, _ => trivial
  | .int i, g => Nat.le_trans g h
  | .str _, g => g
  | .list xs, g => gdAll_mono h xs g
  | .tuple xs, g => gdAll_mono h xs g
  | .dict _, g => g.elim
theorem gdAll_mono {m n : Nat} (h : m ≤ n) : ∀ ds : List PyData, gdAll m ds → gdAll n ds
  | [], _ => trivial
  | x :: xs, g => ⟨gd_mono h x g.1, gdAll_mono h xs g.2⟩
end
theorem log_small' {i : Int} (h : i.natAbs ≤ 2000000) : i.natAbs.log2 < 1920 := by
  by_cases z : i.natAbs = 0
  · rw [z]; decide
  · have := (Nat.log2_lt z).mpr (show i.natAbs < 2 ^ 21 from Nat.lt_of_le_of_lt h (by decide))
    omega
mutual
theorem gd_fine {m : Nat} (h : m ≤ 2000000) : ∀ d : PyData, gd m d → fineAll.fine d
  | .none, _ => trivial
  | .bool _, _ => trivial
  | .int i, g => log_small' (Nat.le_trans g h)
  | .str _, g => fun c hc => Nat.lt_trans (g.2 c hc) (by decide)
  | .list xs, g => gdAll_fine h xs g
  | .tuple xs, g => gdAll_fine h xs g
  | .dict _, g => g.elim
theorem gdAll_fine {m : Nat} (h : m ≤ 2000000) : ∀ ds : List PyData, gdAll m ds → fineAll ds
  | [], _ => trivial
  | x :: xs, g => ⟨gd_fine h x g.1, gdAll_fine h xs g.2⟩
end
theorem costAll_app (xs ys : List PyData) : costAll (xs ++ ys) = costAll xs + costAll ys := by
  induction xs with
  | nil => simp [costAll]
  | cons x xs ih => simp only [List.cons_append, costAll, ih]; omega
theorem cost_mem {ds : List PyData} {d : PyData} (h : d ∈ ds) : costAll.cost d + 2 ≤ costAll ds := by
  induction ds with
  | nil => exact (List.not_mem_nil h).elim
  | cons x xs ih =>
    show _ ≤ costAll.cost x + 2 + costAll xs
    rcases List.mem_cons.mp h with e | e
    · rw [e]; omega
    · have := ih e; omega
theorem len_cost : ∀ ds : List PyData, 2 * ds.length ≤ costAll ds
  | [] => Nat.le_refl _
  | x :: xs => by
    have := len_cost xs
    show 2 * (xs.length + 1) ≤ costAll.cost x + 2 + costAll xs
    omega
theorem depthAll_iff {D : Nat} : ∀ {ds : List PyData}, PyData.depthAll ds ≤ D ↔ ∀ d ∈ ds, d.depth ≤ D
  | [] => ⟨fun _ _ h => (List.not_mem_nil h).elim, fun _ => Nat.zero_le _⟩
  | x :: xs => by
    show max x.depth (PyData.depthAll xs) ≤ D ↔ _
    rw [Nat.max_le, depthAll_iff (ds := xs)]
    constructor
    · rintro ⟨h1, h2⟩ d hd
      rcases List.mem_cons.mp hd with e | e
      · rw [e]; exact h1
      · exact h2 d e
    · intro h
      exact ⟨h x List.mem_cons_self, fun d hd => h d (List.mem_cons_of_mem _ hd)⟩
/-- rows of parts: of numbers within m, their cost, how deep and how wide each -/
structure Ths (m C D W : Nat) (ds : List PyData) : Prop where
  g : ∀ d ∈ ds, gd m d
  c : costAll ds ≤ C
  d : ∀ d ∈ ds, d.depth ≤ D
  w : ∀ d ∈ ds, widAll.wid d ≤ W
/-- a thing: of numbers within m, its cost, how deep, how wide -/
structure Th (m C D W : Nat) (dd : PyData) : Prop where
  g : gd m dd
  c : costAll.cost dd ≤ C
  d : dd.depth ≤ D
  w : widAll.wid dd ≤ W
theorem widAll_iff {D : Nat} : ∀ {ds : List PyData}, widAll ds ≤ D ↔ ∀ d ∈ ds, widAll.wid d ≤ D
  | [] => ⟨fun _ _ h => (List.not_mem_nil h).elim, fun _ => Nat.zero_le _⟩
  | x :: xs => by
    show max (widAll.wid x) (widAll xs) ≤ D ↔ _
    rw [Nat.max_le, widAll_iff (ds := xs)]
    constructor
    · rintro ⟨h1, h2⟩ d hd
      rcases List.mem_cons.mp hd with e | e
      · rw [e]; exact h1
      · exact h2 d e
    · intro h
      exact ⟨h x List.mem_cons_self, fun d hd => h d (List.mem_cons_of_mem _ hd)⟩
section
variable {m n C E D F W U : Nat} {d x : PyData} {ds xs ys : List PyData}
theorem Th.mono (h : Th m C D W d) (a : m ≤ n) (b : C ≤ E) (c : D ≤ F) (e : W ≤ U) : Th n E F U d := ⟨gd_mono a d h.g, Nat.le_trans h.c b, Nat.le_trans h.d c, Nat.le_trans h.w e⟩
theorem Ths.mono (h : Ths m C D W ds) (a : m ≤ n) (b : C ≤ E) (c : D ≤ F) (e : W ≤ U) : Ths n E F U ds := ⟨fun x hx => gd_mono a x (h.g x hx), Nat.le_trans h.c b, fun x hx => Nat.le_trans (h.d x hx) c, fun x hx => Nat.le_trans (h.w x hx) e⟩
theorem Ths.app (h : Ths m C D W xs) (k : Ths m E D W ys) : Ths m (C + E) D W (xs ++ ys) :=
  ⟨fun d hd => (List.mem_append.mp hd).elim (h.g d) (k.g d), by rw [costAll_app]; exact Nat.add_le_add h.c k.c, fun d hd => (List.mem_append.mp hd).elim (h.d d) (k.d d), fun d hd => (List.mem_append.mp hd).elim (h.w d) (k.w d)⟩
theorem Ths.nil : Ths m 0 D W [] := ⟨fun _ h => (List.not_mem_nil h).elim, Nat.le_refl _, fun _ h => (List.not_mem_nil h).elim, fun _ h => (List.not_mem_nil h).elim⟩
theorem Ths.one (h : Th m C D W x) : Ths m (C + 2) D W [x] :=
  ⟨fun d hd => by rw [List.mem_singleton.mp hd]; exact h.g, by show costAll.cost x + 2 + 0 ≤ _; have := h.c; omega, fun d hd => by rw [List.mem_singleton.mp hd]; exact h.d, fun d hd => by rw [List.mem_singleton.mp hd]; exact h.w⟩
theorem Ths.mem (h : Ths m C D W ds) (e : d ∈ ds) : Th m C D W d := ⟨h.g d e, by have := cost_mem e; have := h.c; omega, h.d d e, h.w d e⟩
theorem Ths.len (h : Ths m C D W ds) : 2 * ds.length ≤ C := Nat.le_trans (len_cost ds) h.c
theorem Ths.list (h : Ths m C D W ds) (l : ds.length ≤ W) : Th m (C + 3) (D + 1) W (.list ds) :=
  ⟨gdAll_iff.mpr h.g, by show costAll ds + 3 ≤ _; have := h.c; omega, by show PyData.depthAll ds + 1 ≤ _; have := depthAll_iff.mpr h.d; omega, by show max ds.length (widAll ds) ≤ W; exact Nat.max_le.mpr ⟨l, widAll_iff.mpr h.w⟩⟩
theorem Ths.tuple (h : Ths m C D W ds) (l : ds.length ≤ W) : Th m (C + 3) (D + 1) W (.tuple ds) :=
  ⟨gdAll_iff.mpr h.g, by show costAll ds + 3 ≤ _; have := h.c; omega, by show PyData.depthAll ds + 1 ≤ _; have := depthAll_iff.mpr h.d; omega, by show max ds.length (widAll ds) ≤ W; exact Nat.max_le.mpr ⟨l, widAll_iff.mpr h.w⟩⟩
theorem Th.ofList (h : Th m C D W (.list ds)) : Ths m (C - 3) (D - 1) W ds ∧ ds.length ≤ W ∧ 3 ≤ C ∧ 1 ≤ D := by
  have h1 : costAll ds + 3 ≤ C := h.c
  have h2 : PyData.depthAll ds + 1 ≤ D := h.d
  have h3 : max ds.length (widAll ds) ≤ W := h.w
  exact ⟨⟨gdAll_iff.mp h.g, by omega, depthAll_iff.mp (by omega), widAll_iff.mp (Nat.le_trans (Nat.le_max_right ..) h3)⟩, Nat.le_trans (Nat.le_max_left ..) h3, by omega, by omega⟩
theorem Th.ofTuple (h : Th m C D W (.tuple ds)) : Ths m (C - 3) (D - 1) W ds ∧ ds.length ≤ W ∧ 3 ≤ C ∧ 1 ≤ D := by
  have h1 : costAll ds + 3 ≤ C := h.c
  have h2 : PyData.depthAll ds + 1 ≤ D := h.d
  have h3 : max ds.length (widAll ds) ≤ W := h.w
  exact ⟨⟨gdAll_iff.mp h.g, by omega, depthAll_iff.mp (by omega), widAll_iff.mp (Nat.le_trans (Nat.le_max_right ..) h3)⟩, Nat.le_trans (Nat.le_max_left ..) h3, by omega, by omega⟩
theorem costAll_take (n : Nat) (ds : List PyData) : costAll (ds.take n) ≤ costAll ds := by
  have := costAll_app (ds.take n) (ds.drop n)
  rw [List.take_append_drop] at this; omega
theorem costAll_drop (n : Nat) (ds : List PyData) : costAll (ds.drop n) ≤ costAll ds := by
  have := costAll_app (ds.take n) (ds.drop n)
  rw [List.take_append_drop] at this; omega
theorem costAll_rev : ∀ ds : List PyData, costAll ds.reverse = costAll ds
  | [] => rfl
  | x :: xs => by rw [List.reverse_cons, costAll_app, costAll_rev xs]; show _ + (costAll.cost x + 2 + 0) = costAll.cost x + 2 + costAll xs; omega
theorem Ths.sub (h : Ths m C D W ds) (s : ∀ x ∈ xs, x ∈ ds) (c : costAll xs ≤ C) : Ths m C D W xs := ⟨fun d hd => h.g d (s d hd), c, fun d hd => h.d d (s d hd), fun d hd => h.w d (s d hd)⟩
theorem Ths.take (h : Ths m C D W ds) (n : Nat) : Ths m C D W (ds.take n) := h.sub (fun d hd => List.mem_of_mem_take hd) (Nat.le_trans (costAll_take n ds) h.c)
theorem Ths.drop (h : Ths m C D W ds) (n : Nat) : Ths m C D W (ds.drop n) := h.sub (fun d hd => List.mem_of_mem_drop hd) (Nat.le_trans (costAll_drop n ds) h.c)
theorem Ths.rev (h : Ths m C D W ds) : Ths m C D W ds.reverse := h.sub (fun d hd => List.mem_reverse.mp hd) (by rw [costAll_rev]; exact h.c)
theorem costAll_set : ∀ (ds : List PyData) (i : Nat) (x : PyData), costAll (ds.set i x) ≤ costAll ds + (costAll.cost x + 2)
  | [], _, _ => Nat.zero_le _
  | y :: ys, 0, x => by show costAll.cost x + 2 + costAll ys ≤ costAll.cost y + 2 + costAll ys + _; omega
  | y :: ys, i + 1, x => by
    have := costAll_set ys i x
    show costAll.cost y + 2 + costAll (ys.set i x) ≤ costAll.cost y + 2 + costAll ys + _
    omega
theorem Ths.set {i : Nat} (h : Ths m C D W ds) (k : Th m E D W x) : Ths m (C + E + 2) D W (ds.set i x) :=
  ⟨fun d hd => (List.mem_or_eq_of_mem_set hd).elim (h.g d) fun e => by rw [e]; exact k.g, Nat.le_trans (costAll_set ds i x) (by have := h.c; have := k.c; omega), fun d hd => (List.mem_or_eq_of_mem_set hd).elim (h.d d) fun e => by rw [e]; exact k.d, fun d hd => (List.mem_or_eq_of_mem_set hd).elim (h.w d) fun e => by rw [e]; exact k.w⟩
end
section
variable {K : PySem.W.Frag} {H : Hp}
theorem dpAll_app' : ∀ {xs ys : List V} {ds es : List PyData}, DpAll K H xs ds → DpAll K H ys es → DpAll K H (xs ++ ys) (ds ++ es)
  | _, _, _, _, .nil, h => h
  | _, _, _, _, .cons h t, h2 => .cons h (dpAll_app' t h2)
theorem dpAll_take : ∀ {xs : List V} {ds : List PyData} (n : Nat), DpAll K H xs ds → DpAll K H (xs.take n) (ds.take n)
  | _, _, 0, _ => .nil
  | _, _, _ + 1, .nil => .nil
  | _, _, n + 1, .cons h t => .cons h (dpAll_take n t)
theorem dpAll_drop : ∀ {xs : List V} {ds : List PyData} (n : Nat), DpAll K H xs ds → DpAll K H (xs.drop n) (ds.drop n)
  | _, _, 0, h => h
  | _, _, _ + 1, .nil => .nil
  | _, _, n + 1, .cons _ t => dpAll_drop n t
theorem dpAll_rev : ∀ {xs : List V} {ds : List PyData}, DpAll K H xs ds → DpAll K H xs.reverse ds.reverse
  | _, _, .nil => .nil
  | _, _, .cons h t => by rw [List.reverse_cons, List.reverse_cons]; exact dpAll_app' (dpAll_rev t) (.cons h .nil)
theorem dpAll_set : ∀ {xs : List V} {ds : List PyData} {i : Nat} {v : V} {d : PyData}, DpAll K H xs ds → Dp K H v d → DpAll K H (xs.set i v) (ds.set i d)
  | _, _, _, _, _, .nil, _ => .nil
  | _, _, 0, _, _, .cons _ t, k => .cons k t
  | _, _, _ + 1, _, _, .cons h t, k => .cons h (dpAll_set t k)
/-- a slice of a row of parts -/
theorem dp_cut {xs : List V} {ds : List PyData} {lo hi : Option Int} {m C D W : Nat} (h : DpAll K H xs ds) (t : Ths m C D W ds) : ∃ es, DpAll K H (cutV xs lo hi) es ∧ Ths m C D W es ∧ es.length ≤ ds.length := by
  unfold cutV
  exact ⟨_, dpAll_take _ (dpAll_drop _ h), (t.drop _).take _, by rw [List.length_take, List.length_drop]; omega⟩
theorem dp_lst' {v : V} {ds : List PyData} (h : Dp K H v (.list ds)) : ∃ a xs, v = .ref a ∧ SqL K H a xs ∧ DpAll K H xs ds := by
  cases h with
  | lst h a => exact ⟨_, _, rfl, h, a⟩
end
end Pot
namespace Pot
open PySem PySem.Spec PyProof.Rows L2
theorem sm_at {H H' : Hp} {S : List Addr} {x : Addr} {o : HO} (s : Sm S H H') (n : x ∉ S) (h : H x = some o) : H' x = some o := by
  have := s x o (by rw [off_out n]; exact h)
  rw [off_out n] at this; exact this
theorem sm1_at {H H' : Hp} {b x : Addr} {o : HO} (s : Sm [b] H H') (n : x ≠ b) (h : H x = some o) : H' x = some o := sm_at s (fun z => n (List.mem_singleton.mp z)) h
theorem smp {H H' : Hp} {S : List Addr} {p : Addr} {o : HO} (s : Sm S H H') (h : H p = none) : Sm S H (upd H' p o) := fun x u e => by
  have n := off_mem e
  have ne : x ≠ p := fun z => by
    rw [off_out n, z, h] at e; cases e
  have := s x u e
  rw [off_out n] at this ⊢
  rw [upd_ne ne]; exact this
theorem sm_free {H H' : Hp} {b l : Addr} (s : Sm [b] H H') (B : Bx H' b) (h : H' l = none) : H l = none := by
  have nb := B.ne h
  have n : l ∉ [b] := fun z => nb (List.mem_singleton.mp z)
  cases e : H l with
  | none => rfl
  | some o => rw [sm_at s n e] at h; cases h
theorem cut_map {α : Type} (f : α → V) (ns : List α) (lo hi : Option Int) : cutV (ns.map f) lo hi = ((ns.drop (HT.sIx ns.length 0 lo)).take (HT.sIx ns.length ns.length hi - HT.sIx ns.length 0 lo)).map f := by
  unfold cutV
  rw [List.length_map, List.map_take, List.map_drop]
theorem cut_head {xs : List V} {k : Nat} : cutV xs none (some (k : Int)) = xs.take k := by
  unfold cutV
  rw [HT.sIx_none, HT.sIx_nat, List.drop_zero, Nat.sub_zero]
  by_cases h : k ≤ xs.length
  · rw [Nat.min_eq_left h]
  · rw [Nat.min_eq_right (by omega), List.take_length, List.take_of_length_le (by omega)]
theorem cut_tail {xs : List V} {k : Nat} : cutV xs (some (k : Int)) none = xs.drop k := by
  unfold cutV
  rw [HT.sIx_none, HT.sIx_nat]
  by_cases h : k ≤ xs.length
  · rw [Nat.min_eq_left h, List.take_of_length_le (by rw [List.length_drop]; exact Nat.le_refl _)]
  · rw [Nat.min_eq_right (by omega), Nat.sub_self, List.take_zero, List.drop_of_length_le (by omega)]
end Pot
namespace Pot
open PySem PySem.Spec PyProof.Rows L2
section
variable {K : PySem.W.Frag} {H : Hp} {t : Addr} {d : PyData} {ds : List PyData}
theorem seq_dp {x : V} (h : Dp K H x d) (e : d = .list ds ∨ d = .tuple ds) : ∃ t zs, x = .ref t ∧ (SqL K H t zs ∨ SqT K H t zs) ∧ DpAll K H zs ds := by
  rcases e with rfl | rfl
  · cases h with
    | lst h a => exact ⟨_, _, rfl, .inl h, a⟩
  · cases h with
    | tup h a => exact ⟨_, _, rfl, .inr h, a⟩
theorem len_dp (h : Dp K H (.ref t) d) (e : d = .list ds ∨ d = .tuple ds) : LenV K (.ref t) H ds.length := by
  rcases e with rfl | rfl
  · cases h with
    | lst h a => exact .inl ⟨_, h, (dpAll_len a).symm⟩
  · cases h with
    | tup h a => exact .inr ⟨_, h, (dpAll_len a).symm⟩
theorem Th.parts {m C D W : Nat} (h : Th m C D W d) (e : d = .list ds ∨ d = .tuple ds) : Ths m (C - 3) (D - 1) W ds ∧ ds.length ≤ W ∧ 3 ≤ C ∧ 1 ≤ D := by
  rcases e with rfl | rfl
  · exact h.ofList
  · exact h.ofTuple
end
theorem sm_in {H H' : Hp} {S : List Addr} {x : Addr} {o : HO} (s : Sm S H H') (h : off H S x = some o) : off H' S x = some o := s x o h
end Pot
namespace Pot
open PySem PySem.Spec PyProof.Rows L2
theorem costAll_set_eq : ∀ {ds : List PyData} {i : Nat} {x y : PyData}, ds[i]? = some y → costAll (ds.set i x) + costAll.cost y = costAll ds + costAll.cost x
  | [], _, _, _, h => by simp at h
  | z :: zs, 0, x, y, h => by
    have e : z = y := by simpa using h
    subst e
    show costAll.cost x + 2 + costAll zs + costAll.cost z = costAll.cost z + 2 + costAll zs + costAll.cost x
    omega
  | z :: zs, i + 1, x, y, h => by
    have := costAll_set_eq (ds := zs) (i := i) (x := x) (y := y) (by simpa using h)
    show costAll.cost z + 2 + costAll (zs.set i x) + costAll.cost y = costAll.cost z + 2 + costAll zs + costAll.cost x
    omega
theorem codes_ofString (s : String) : ∀ c ∈ (Str.ofString s).cps.toList, c < 1114112 := by
  intro c hc
  rw [Str.ofString_eq_toList] at hc
  have : c ∈ s.toList.map Char.toNat := by simpa using hc
  obtain ⟨ch, _, rfl⟩ := List.mem_map.mp this
  have v := ch.valid
  have e : ch.toNat = ch.val.toNat := rfl
  rcases v with v | ⟨_, v⟩
  · have : ch.val.toNat < 0xD800 := v
    omega
  · have : ch.val.toNat < 0x110000 := v
    omega
theorem th_text {i : Int} (h : i.natAbs ≤ 2000000) {m : Nat} : Th m 19212 0 0 (.str (toString i)) := by
  have l : (Str.ofString (toString i)).length ≤ 1921 := PyProof.Rows.int_text_len_1921 (log_small' h)
  exact ⟨⟨by omega, codes_ofString _⟩, by show 10 * (Str.ofString (toString i)).length + 2 ≤ 19212; omega, Nat.le_refl _, Nat.le_refl _⟩
end Pot

namespace Pot
open PySem PySem.Spec PyProof.Rows L2
theorem Ths.parts2 {m C E D W a b : Nat} {ds es : List PyData} (h : Ths m C D W ds) (hab : a ≤ b) (k : Ths m E D W es) : Ths m (C + E) D W (ds.take a ++ es ++ ds.drop b) := by
  have mem : ∀ d, d ∈ ds.take a ++ es ++ ds.drop b → d ∈ ds ∨ d ∈ es := fun d hd => by
    rcases List.mem_append.mp hd with z | z
    · rcases List.mem_append.mp z with y | y
      · exact .inl (List.mem_of_mem_take y)
      · exact .inr y
    · exact .inl (List.mem_of_mem_drop z)
  refine ⟨fun d hd => (mem d hd).elim (h.g d) (k.g d), ?_, fun d hd => (mem d hd).elim (h.d d) (k.d d), fun d hd => (mem d hd).elim (h.w d) (k.w d)⟩
  rw [costAll_app, costAll_app]
  have e := costAll_app (ds.take a) (ds.drop a)
  rw [List.take_append_drop] at e
  have e2 : ds.drop b = (ds.drop a).drop (b - a) := by rw [List.drop_drop]; congr 1; omega
  have e3 := costAll_drop (b - a) (ds.drop a)
  rw [← e2] at e3
  have := h.c
  have := k.c
  omega
end Pot

namespace Pot
open PySem PySem.Spec PyProof.Rows L2
theorem nodup_le {α : Type} [BEq α] [LawfulBEq α] : ∀ {ks l : List α}, ks.Nodup → (∀ k ∈ ks, k ∈ l) → ks.length ≤ l.length
  | [], _, _, _ => Nat.zero_le _
  | k :: ks, l, h, s => by
    have hk := s k List.mem_cons_self
    have h2 := (List.nodup_cons.mp h)
    have := nodup_le (ks := ks) (l := l.erase k) h2.2 fun x hx => by
      have ne : x ≠ k := fun e => h2.1 (e ▸ hx)
      exact (List.mem_erase_of_ne ne).mpr (s x (List.mem_cons_of_mem _ hx))
    rw [List.length_erase_of_mem hk] at this
    have : 0 < l.length := List.length_pos_of_mem hk
    simp only [List.length_cons]
    omega
section
variable {X : Cx} {K : PySem.W.Frag}
theorem ko_notIn (h : X.K = K := by rfl) : OpR X (compareOp .NotIn) (rIn K true) := h ▸ op_notIn_seq
/-- set(xs) of ints: how many members it has -/
def rSetLj (K : PySem.W.Frag) (w : World) : List V → Hp → VK → Prop := fun xs H Q => ∃ (a : Addr) (ns : List Int), xs = [V.ref a] ∧ SqL K H a (ns.map V.int) ∧ ns.length ≤ 4000 ∧
  ∀ (p : Addr) (ks : List Int), H p = none → ks.Nodup → (∀ k, k ∈ ks ↔ k ∈ ns) → Q (.ref p) (upd H p (SetO w p (fun k => decide (k ∈ ns)) ks.length))
theorem cr_setLj (hc : X.calm = true) : CallR X (.type "set") (rSetLj X.K X.w) := by
  intro pins s σ H vs us Q I r h
  obtain ⟨a, ns, rfl, hS, hl, q⟩ := h
  rw [Vals.ref1 r]
  obtain ⟨its, rv, pl, hz⟩ := I.list hS
  refine call_set_li ns (I.ok.hd hc) pl.isList (by simpa using Vals.ints rv) (by unfold scanBound; omega) fun s' f => ?_
  obtain ⟨h', tk, c, rfl, R, hcn, k⟩ := f
  have hn : H s.heap.objs.size = none := I.hok.fresh (Nat.le_refl _)
  have J : Inv X pins σ (upd H s.heap.objs.size (SetO X.w s.heap.objs.size (fun k => decide (k ∈ ns)) c)) { s with heap := h', toks := tk } := I.laid (t' := tk) k (Nat.le_refl _) (setO_new R)
  obtain ⟨o, es, ep, t, _, _, _, _, nod, mem, _, _, size, _⟩ := R
  have q2 := q s.heap.objs.size (es.toList.map keyOf) hn nod fun k => by rw [← mem k, decide_eq_true_eq]
  rw [List.length_map, Array.length_toList, size] at q2
  exact ⟨.ref s.heap.objs.size, _, J, rfl, q2⟩
theorem kc_setLj {w : World} (hc : X.calm = true := by rfl) (h : X.K = K := by rfl) (hw : X.w = w := by rfl) : CallR X (.type "set") (rSetLj K w) := by subst h; subst hw; exact cr_setLj hc
end
end Pot

namespace Pot
open PySem PySem.Spec PyProof.Rows L2
/-! ### kinds of data -/
def tyD : PyData → String
  | .none => "NoneType"
  | .bool _ => "bool"
  | .int _ => "int"
  | .str _ => "str"
  | .list _ => "list"
  | .tuple _ => "tuple"
  | .dict _ => "dict"
def isIntD : PyData → Bool
  | .int _ => true
  | .bool _ => true
  | _ => false
def isBoolD : PyData → Bool
  | .bool _ => true
  | _ => false
def isStrD : PyData → Bool
  | .str _ => true
  | _ => false
def isListD : PyData → Bool
  | .list _ => true
  | _ => false
def isTupD : PyData → Bool
  | .tuple _ => true
  | _ => false
section
variable {K : PySem.W.Frag} {H : Hp} {x : V} {d : PyData} {Q : VK}
theorem tyx_dp (h : Dp K H x d) : TyX K H x (.type (tyD d)) := by
  cases h with
  | non => exact .base .non
  | bl b => exact .base (.bl b)
  | int i => exact .base (.int i)
  | str z => exact .base (.str z)
  | lst h _ => exact tyx_list h
  | tup h _ => exact tyx_tup h
theorem kit_int (h : Dp K H x d) : PySem.W.kitOne K (.type (tyD d)) (.type "int") = some (isIntD d) := by
  cases h with
  | non => exact kit_ty (show kitB "NoneType" "int" = some false by decide +kernel)
  | bl _ => exact kit_ty (show kitB "bool" "int" = some true by decide +kernel)
  | int _ => exact kit_ty (show kitB "int" "int" = some true by decide +kernel)
  | str _ => exact kit_ty (show kitB "str" "int" = some false by decide +kernel)
  | lst _ _ => exact kit_ty (show kitB "list" "int" = some false by decide +kernel)
  | tup _ _ => exact kit_ty (show kitB "tuple" "int" = some false by decide +kernel)
theorem kit_bool (h : Dp K H x d) : PySem.W.kitOne K (.type (tyD d)) (.type "bool") = some (isBoolD d) := by
  cases h with
  | non => exact kit_ty (show kitB "NoneType" "bool" = some false by decide +kernel)
  | bl _ => exact kit_ty (show kitB "bool" "bool" = some true by decide +kernel)
  | int _ => exact kit_ty (show kitB "int" "bool" = some false by decide +kernel)
  | str _ => exact kit_ty (show kitB "str" "bool" = some false by decide +kernel)
  | lst _ _ => exact kit_ty (show kitB "list" "bool" = some false by decide +kernel)
  | tup _ _ => exact kit_ty (show kitB "tuple" "bool" = some false by decide +kernel)
theorem kit_str (h : Dp K H x d) : PySem.W.kitOne K (.type (tyD d)) (.type "str") = some (isStrD d) := by
  cases h with
  | non => exact kit_ty (show kitB "NoneType" "str" = some false by decide +kernel)
  | bl _ => exact kit_ty (show kitB "bool" "str" = some false by decide +kernel)
  | int _ => exact kit_ty (show kitB "int" "str" = some false by decide +kernel)
  | str _ => exact kit_ty (show kitB "str" "str" = some true by decide +kernel)
  | lst _ _ => exact kit_ty (show kitB "list" "str" = some false by decide +kernel)
  | tup _ _ => exact kit_ty (show kitB "tuple" "str" = some false by decide +kernel)
theorem kit_list (h : Dp K H x d) : PySem.W.kitOne K (.type (tyD d)) (.type "list") = some (isListD d) := by
  cases h with
  | non => exact kit_ty (show kitB "NoneType" "list" = some false by decide +kernel)
  | bl _ => exact kit_ty (show kitB "bool" "list" = some false by decide +kernel)
  | int _ => exact kit_ty (show kitB "int" "list" = some false by decide +kernel)
  | str _ => exact kit_ty (show kitB "str" "list" = some false by decide +kernel)
  | lst _ _ => exact kit_ty (show kitB "list" "list" = some true by decide +kernel)
  | tup _ _ => exact kit_ty (show kitB "tuple" "list" = some false by decide +kernel)
theorem kit_tup (h : Dp K H x d) : PySem.W.kitOne K (.type (tyD d)) (.type "tuple") = some (isTupD d) := by
  cases h with
  | non => exact kit_ty (show kitB "NoneType" "tuple" = some false by decide +kernel)
  | bl _ => exact kit_ty (show kitB "bool" "tuple" = some false by decide +kernel)
  | int _ => exact kit_ty (show kitB "int" "tuple" = some false by decide +kernel)
  | str _ => exact kit_ty (show kitB "str" "tuple" = some false by decide +kernel)
  | lst _ _ => exact kit_ty (show kitB "list" "tuple" = some false by decide +kernel)
  | tup _ _ => exact kit_ty (show kitB "tuple" "tuple" = some true by decide +kernel)
theorem kit_lt (h : Dp K H x d) : PySem.W.kitAny K (.type (tyD d)) [.type "list", .type "tuple"] = some (isListD d || isTupD d) := by
  cases h <;> rfl
end
/-! ### numbers within bounds -/
def numD (lo hi : Int) : PyData → Bool
  | .int i => decide (lo ≤ i) && decide (i ≤ hi)
  | _ => false
def toI : PyData → Int
  | .int i => i
  | _ => 0
theorem numD_int {lo hi : Int} : ∀ {d : PyData}, numD lo hi d = true → d = .int (toI d) ∧ lo ≤ toI d ∧ toI d ≤ hi
  | .int i, h => by
    obtain ⟨h1, h2⟩ := Bool.and_eq_true_iff.mp (show (decide (lo ≤ i) && decide (i ≤ hi)) = true from h)
    exact ⟨rfl, of_decide_eq_true h1, of_decide_eq_true h2⟩
/-- rising -/
def risI : List Int → Bool
  | a :: b :: r => decide (a < b) && risI (b :: r)
  | _ => true
def risD (lo hi : Int) : PyData → Bool
  | .list ds => ds.all (numD lo hi) && risI (ds.map toI)
  | _ => false
theorem risI_pair : ∀ {ns : List Int}, risI ns = true ↔ ns.Pairwise (· < ·)
  | [] => by simp [risI]
  | [a] => by simp [risI]
  | a :: b :: r => by
    have ih := risI_pair (ns := b :: r)
    show (decide (a < b) && risI (b :: r)) = true ↔ _
    rw [Bool.and_eq_true_iff, decide_eq_true_eq, ih]
    constructor
    · rintro ⟨h1, h2⟩
      refine List.pairwise_cons.mpr ⟨fun x hx => ?_, h2⟩
      rcases List.mem_cons.mp hx with e | e
      · rw [e]; exact h1
      · exact Int.lt_trans h1 ((List.pairwise_cons.mp h2).1 x e)
    · intro h
      obtain ⟨h1, h2⟩ := List.pairwise_cons.mp h
      exact ⟨h1 b List.mem_cons_self, h2⟩
theorem nums_of {lo hi : Int} {ds : List PyData} (h : ds.all (numD lo hi) = true) : ds = (ds.map toI).map PyData.int ∧ ∀ k ∈ ds.map toI, lo ≤ k ∧ k ≤ hi := by
  rw [List.all_eq_true] at h
  constructor
  · rw [List.map_map]
    conv => lhs; rw [← List.map_id ds]
    exact List.map_congr_left fun d hd => (numD_int (h d hd)).1
  · intro k hk
    obtain ⟨d, hd, rfl⟩ := List.mem_map.mp hk
    exact (numD_int (h d hd)).2
section
variable {K : PySem.W.Frag} {H : Hp}
theorem dp_intsV : ∀ {xs : List V} {ns : List Int}, DpAll K H xs (ns.map PyData.int) → xs = ns.map V.int
  | [], [], _ => rfl
  | [], _ :: _, h => by cases h
  | _ :: _, [], h => by cases h
  | x :: xs, n :: ns, h => by
    cases h with
    | cons h t => cases h; rw [dp_intsV t]; rfl
end
/-- of a row that rises just the same: a row in which all stand in order, none twice -/
theorem sorted_uniq : ∀ {xs ys : List Int}, xs.Pairwise (· < ·) → ys.Pairwise (· < ·) → (∀ k, k ∈ xs ↔ k ∈ ys) → xs = ys
  | [], [], _, _, _ => rfl
  | [], y :: ys, _, _, h => by have := (h y).mpr List.mem_cons_self; simp at this
  | x :: xs, [], _, _, h => by have := (h x).mp List.mem_cons_self; simp at this
  | x :: xs, y :: ys, h1, h2, h => by
    rw [List.pairwise_cons] at h1 h2
    have e : x = y := by
      rcases List.mem_cons.mp ((h x).mp List.mem_cons_self) with e | e
      · exact e
      · rcases List.mem_cons.mp ((h y).mpr List.mem_cons_self) with e2 | e2
        · exact e2.symm
        · have := h2.1 x e; have := h1.1 y e2; omega
    subst e
    have : xs = ys := sorted_uniq h1.2 h2.2 fun k => by
      constructor
      · intro hk
        rcases List.mem_cons.mp ((h k).mp (List.mem_cons_of_mem _ hk)) with e | e
        · have := h1.1 k hk; omega
        · exact e
      · intro hk
        rcases List.mem_cons.mp ((h k).mpr (List.mem_cons_of_mem _ hk)) with e | e
        · have := h2.1 k hk; omega
        · exact e
    rw [this]
theorem eqv_ints : ∀ xs ys : List Int, PyData.eqv (.list (xs.map PyData.int)) (.list (ys.map PyData.int)) = decide (xs = ys)
  | [], [] => rfl
  | [], _ :: _ => rfl
  | _ :: _, [] => rfl
  | x :: xs, y :: ys => by
    have ih := eqv_ints xs ys
    show (PyData.eqv (.int x) (.int y) && PyData.eqvAll (xs.map PyData.int) (ys.map PyData.int)) = _
    rw [show PyData.eqvAll (xs.map PyData.int) (ys.map PyData.int) = decide (xs = ys) from ih]
    show ((x == y) && _) = _
    by_cases h : x = y
    · subst h; simp
    · simp [h]
/-- thing == sorted(set(thing)): just where it rises -/
theorem eq_sorted {ns zs : List Int} (h : zs.Pairwise (· < ·)) (m : ∀ k, k ∈ zs ↔ k ∈ ns) : decide (ns = zs) = risI ns := by
  by_cases e : ns = zs
  · rw [decide_eq_true e, e]; exact (risI_pair.mpr h).symm
  · rw [decide_eq_false e]
    cases hr : risI ns with
    | false => rfl
    | true => exact absurd (sorted_uniq (risI_pair.mp hr) h fun k => (m k).symm) e
theorem nodup_60 {ks : List Int} (h : ks.Nodup) (b : ∀ k ∈ ks, 0 ≤ k ∧ k ≤ 60) : ks.length < 64 := by
  have := nodup_le (l := (List.range 61).map fun (i : Nat) => (i : Int)) h fun k hk => by
    obtain ⟨h0, h1⟩ := b k hk
    exact List.mem_map.mpr ⟨k.toNat, List.mem_range.mpr (by omega), by omega⟩
  rw [List.length_map, List.length_range] at this
  omega
end Pot
namespace Pot
open PySem PySem.Spec PyProof.Rows L2
/-! ### a comprehension that changes nothing that stood: out i is what is told up to turn i -/
def PvL (H1 : Hp) (D : Addr) (out : Nat → List V) (i : Nat) (H2 : Hp) : Prop := Same H1 H2 ∧ H2 D = some (.lst (out i))
section
variable {H1 H2 H3 : Hp} {D : Addr} {out : Nat → List V} {i : Nat} {y : V}
theorem pv_start (nD : H1 D = none) (e : out 0 = []) : PvL H1 D out 0 (upd H1 D (.lst [])) := ⟨same_upd nD, by rw [e]; exact upd_same⟩
theorem pv_put (nD : H1 D = none) (p : PvL H1 D out i H2) (s : Same H2 H3) (e : out (i + 1) = out i ++ [y]) (l : (out i).length < sizeLine) : ∃ acc, H3 D = some (.lst acc) ∧ acc.length < sizeLine ∧ PvL H1 D out (i + 1) (upd H3 D (.lst (acc ++ [y]))) :=
  ⟨out i, s _ _ p.2, l, same_put (p.1.trans s) nD, by rw [e]; exact upd_same⟩
theorem pv_skip (p : PvL H1 D out i H2) (s : Same H2 H3) (e : out (i + 1) = out i) : PvL H1 D out (i + 1) H3 := ⟨p.1.trans s, by rw [e]; exact s _ _ p.2⟩
end
theorem take_map {α : Type} (f : α → V) {l : List α} {i : Nat} {x : α} (h : l[i]? = some x) : (l.take (i + 1)).map f = (l.take i).map f ++ [f x] := by
  rw [List.take_add_one, h, List.map_append]; rfl
theorem take_len_lt {α : Type} {f : α → V} {l : List α} {i : Nat} (h : i < 100000) : ((l.take i).map f).length < sizeLine := by
  rw [List.length_map, List.length_take, sizeLine_eq]; omega
theorem take_len_le {α : Type} {f : α → V} {l : List α} {i : Nat} (h : l.length < 100000) : ((l.take i).map f).length < sizeLine := by
  rw [List.length_map, List.length_take, sizeLine_eq]; omega
/-- each below the next -/
def rb : List Int → List Bool
  | a :: b :: r => decide (a < b) :: rb (b :: r)
  | _ => []
theorem rb_all : ∀ ns : List Int, (rb ns).all id = risI ns
  | [] => rfl
  | [_] => rfl
  | a :: b :: r => by show (decide (a < b) && (rb (b :: r)).all id) = _; rw [rb_all (b :: r)]; rfl
theorem rb_len : ∀ ns : List Int, (rb ns).length = ns.length - 1
  | [] => rfl
  | [_] => rfl
  | a :: b :: r => by show (rb (b :: r)).length + 1 = _; rw [rb_len (b :: r)]; simp
theorem rb_at : ∀ {ns : List Int} {i : Nat} {x y : Int}, ns[i]? = some x → ns[i + 1]? = some y → (rb ns)[i]? = some (decide (x < y))
  | [], _, _, _, h, _ => by simp at h
  | [_], i, _, _, _, h => by simp at h
  | a :: b :: r, 0, x, y, h, k => by
    have e1 : a = x := by simpa using h
    have e2 : b = y := by simpa using k
    subst e1 e2; rfl
  | a :: b :: r, i + 1, x, y, h, k => rb_at (ns := b :: r) (i := i) (by simpa using h) (by simpa using k)
/-- what is told of each of some data -/
theorem all_map {ds : List PyData} {f : PyData → Bool} : (ds.map f).all id = ds.all f := by
  rw [List.all_map]; rfl
end Pot
namespace Pot
open PySem PySem.Spec PyProof.Rows L2
theorem pv_end {H1 H2 : Hp} {D : Addr} {out : Nat → List V} {n : Nat} {zs : List V} (p : PvL H1 D out n H2) (e : out n = zs) : Same H1 H2 ∧ H2 D = some (.lst zs) := ⟨p.1, by rw [← e]; exact p.2⟩
theorem take_all {α : Type} {f : α → V} {l : List α} {n : Nat} (h : l.length ≤ n) : (l.take n).map f = l.map f := by rw [List.take_of_length_le h]
end Pot

namespace Pot
open PySem PySem.Spec PyProof.Rows L2
/-! ### palettes as data -/
abbrev Col := Str × Int × Int × Int
abbrev Wsh := Str × Str × Option Int
def colD (c : Col) : PyData := .tuple [.str c.1, .int c.2.1, .int c.2.2.1, .int c.2.2.2]
def optD : Option Int → PyData
  | none => .none
  | some i => .int i
def washD (r : Wsh) : PyData := .tuple [.str r.1, .str r.2.1, optD r.2.2]
def palD (cs : List Col) (ws : List Wsh) : PyData := .tuple [.tuple (cs.map colD), .tuple (ws.map washD)]
def optV : Option Int → V
  | none => .non
  | some i => .int i
def namV : Option Str → V
  | none => .non
  | some z => .str z
/-- the washing between two: the first row that tells -/
def washF (ws : List Wsh) (a : Option Str) (b : Str) : Option Int := match ws with
  | [] => some 0
  | r :: ws => if some r.1 = a ∧ r.2.1 = b then r.2.2 else washF ws a b
/-- the washing of a row -/
def sumF (ws : List Wsh) : Option Str → List Str → Int → Option Int
  | _, [], h => some h
  | a, b :: r, h => match washF ws a b with
    | none => none
    | some k => sumF ws (some b) r (h + k)
section
variable {K : PySem.W.Frag} {H : Hp}
theorem dp_tup {v : V} {ds : List PyData} (h : Dp K H v (.tuple ds)) : ∃ a xs, v = .ref a ∧ SqT K H a xs ∧ DpAll K H xs ds := by
  cases h with
  | tup h a => exact ⟨_, _, rfl, h, a⟩
theorem dp_lst {v : V} {ds : List PyData} (h : Dp K H v (.list ds)) : ∃ a xs, v = .ref a ∧ SqL K H a xs ∧ DpAll K H xs ds := by
  cases h with
  | lst h a => exact ⟨_, _, rfl, h, a⟩
theorem dp_str {v : V} {z : Str} (h : Dp K H v (.str z)) : v = .str z := by cases h; rfl
theorem dp_int {v : V} {z : Int} (h : Dp K H v (.int z)) : v = .int z := by cases h; rfl
theorem dp_opt {v : V} : ∀ {z : Option Int}, Dp K H v (optD z) → v = optV z
  | none, h => by cases h; rfl
  | some i, h => by cases h; rfl
theorem opt_dp : ∀ (z : Option Int), Dp K H (optV z) (optD z)
  | none => .non
  | some i => .int i
theorem dp_two {xs : List V} {d e : PyData} (h : DpAll K H xs [d, e]) : ∃ x y, xs = [x, y] ∧ Dp K H x d ∧ Dp K H y e := by
  cases h with
  | cons h1 t => cases t with
    | cons h2 t => cases t; exact ⟨_, _, rfl, h1, h2⟩
theorem dp_three {xs : List V} {d e f : PyData} (h : DpAll K H xs [d, e, f]) : ∃ x y z, xs = [x, y, z] ∧ Dp K H x d ∧ Dp K H y e ∧ Dp K H z f := by
  cases h with
  | cons h1 t => obtain ⟨y, z, rfl, h2, h3⟩ := dp_two t; exact ⟨_, _, _, rfl, h1, h2, h3⟩
theorem dp_four {xs : List V} {d e f g : PyData} (h : DpAll K H xs [d, e, f, g]) : ∃ x y z u, xs = [x, y, z, u] ∧ Dp K H x d ∧ Dp K H y e ∧ Dp K H z f ∧ Dp K H u g := by
  cases h with
  | cons h1 t => obtain ⟨y, z, u, rfl, h2, h3, h4⟩ := dp_three t; exact ⟨_, _, _, _, rfl, h1, h2, h3, h4⟩
/-- a colour's tuple -/
theorem col_dp {v : V} {c : Col} (h : Dp K H v (colD c)) : ∃ a, v = .ref a ∧ SqT K H a [.str c.1, .int c.2.1, .int c.2.2.1, .int c.2.2.2] := by
  obtain ⟨a, xs, rfl, hs, ha⟩ := dp_tup h
  obtain ⟨x, y, z, u, rfl, h1, h2, h3, h4⟩ := dp_four ha
  rw [dp_str h1, dp_int h2, dp_int h3, dp_int h4] at hs
  exact ⟨a, rfl, hs⟩
theorem wash_dp {v : V} {r : Wsh} (h : Dp K H v (washD r)) : ∃ a, v = .ref a ∧ SqT K H a [.str r.1, .str r.2.1, optV r.2.2] := by
  obtain ⟨a, xs, rfl, hs, ha⟩ := dp_tup h
  obtain ⟨x, y, z, rfl, h1, h2, h3⟩ := dp_three ha
  rw [dp_str h1, dp_str h2, dp_opt h3] at hs
  exact ⟨a, rfl, hs⟩
/-- a palette in the heap -/
theorem pal_dp {v : V} {cs : List Col} {ws : List Wsh} (h : Dp K H v (palD cs ws)) :
    ∃ p c w xs ys, v = .ref p ∧ SqT K H p [.ref c, .ref w] ∧ SqT K H c xs ∧ DpAll K H xs (cs.map colD) ∧ SqT K H w ys ∧ DpAll K H ys (ws.map washD) := by
  obtain ⟨p, zs, rfl, hp, hz⟩ := dp_tup h
  obtain ⟨x, y, rfl, h1, h2⟩ := dp_two hz
  obtain ⟨c, xs, rfl, hc, hx⟩ := dp_tup h1
  obtain ⟨w, ys, rfl, hw, hy⟩ := dp_tup h2
  exact ⟨p, c, w, xs, ys, rfl, hp, hc, hx, hw, hy⟩
theorem dpAll_map_at {α : Type} {f : α → PyData} {xs : List V} {l : List α} {i : Nat} {x : V} (h : DpAll K H xs (l.map f)) (e : xs[i]? = some x) : ∃ y, l[i]? = some y ∧ Dp K H x (f y) := by
  obtain ⟨d, g, p⟩ := dpAll_at h e
  rw [List.getElem?_map] at g
  obtain ⟨y, hy, rfl⟩ := Option.map_eq_some_iff.mp g
  exact ⟨y, hy, p⟩
theorem dpAll_map_len {α : Type} {f : α → PyData} {xs : List V} {l : List α} (h : DpAll K H xs (l.map f)) : xs.length = l.length := by
  rw [dpAll_len h, List.length_map]
end
theorem decS {a b : Str} : decide (V.str a = V.str b) = decide (a = b) := by
  by_cases h : a = b
  · subst h; rw [decide_eq_true rfl, decide_eq_true rfl]
  · rw [decide_eq_false h, decide_eq_false fun z => h (V.str.inj z)]
/-- behind rows that don't tell -/
theorem washF_skip {a : Option Str} {b : Str} : ∀ {ws : List Wsh} {i : Nat}, (∀ j r, j < i → ws[j]? = some r → ¬ (some r.1 = a ∧ r.2.1 = b)) → washF ws a b = washF (ws.drop i) a b
  | ws, 0, _ => rfl
  | [], i + 1, _ => rfl
  | r :: ws, i + 1, h => by
    show (if some r.1 = a ∧ r.2.1 = b then r.2.2 else washF ws a b) = washF (ws.drop i) a b
    rw [if_neg (h 0 r (Nat.succ_pos _) rfl)]
    exact washF_skip (a := a) (b := b) (ws := ws) (i := i) fun j q hj e => h (j + 1) q (Nat.succ_lt_succ hj) e
theorem washF_at {a : Option Str} {b : Str} {ws : List Wsh} {i : Nat} {r : Wsh} (h : ∀ j r, j < i → ws[j]? = some r → ¬ (some r.1 = a ∧ r.2.1 = b)) (e : ws[i]? = some r) (hr : some r.1 = a ∧ r.2.1 = b) : washF ws a b = r.2.2 := by
  rw [washF_skip h, List.drop_eq_getElem_cons (List.getElem?_eq_some_iff.mp e).1, (List.getElem?_eq_some_iff.mp e).2]
  unfold washF
  rw [if_pos hr]
theorem washF_none {a : Option Str} {b : Str} {ws : List Wsh} (h : ∀ j r, j < ws.length → ws[j]? = some r → ¬ (some r.1 = a ∧ r.2.1 = b)) : washF ws a b = some 0 := by
  rw [washF_skip h, List.drop_length]
  rfl
/-! ### data without lists stays while the law draws -/
def noLAll : List PyData → Prop
  | [] => True
  | x :: xs => noL x ∧ noLAll xs
where noL : PyData → Prop
  | .list _ => False
  | .dict _ => False
  | .tuple xs => noLAll xs
  | _ => True
section
variable {K : PySem.W.Frag}
theorem kp_tup {d c : Addr} {H H' : Hp} {n : Nat} {a : Addr} {xs : List V} (st : StAt H d c n) (k : Kp d c H H') (h : SqT K H a xs) : SqT K H' a xs := by
  obtain ⟨_, ys, t, h1, h2, _⟩ := st
  have go : ∀ o, (H a = some (.tup xs) ∨ H a = some (.frz o (.tup xs))) → a ≠ d ∧ a ≠ c := fun o e => by
    constructor
    · intro z; subst z; rw [h1] at e; rcases e with e | e <;> cases e
    · intro z; subst z; rw [h2] at e; rcases e with e | e <;> cases e
  rcases h with (h | ⟨o, h⟩) | h
  · have g := go ⟨.none, none, .fields #[], #[]⟩ (.inl h); exact .inl (.inl (k _ _ g.1 g.2 h))
  · have g := go o (.inr h); exact .inl (.inr ⟨o, k _ _ g.1 g.2 h⟩)
  · exact .inr h
mutual
theorem dp_kp {d c : Addr} {H H' : Hp} {n : Nat} (st : StAt H d c n) (k : Kp d c H H') : ∀ {v : V} {e : PyData}, noLAll.noL e → Dp K H v e → Dp K H' v e
  | _, _, _, .non => .non
  | _, _, _, .bl b => .bl b
  | _, _, _, .int i => .int i
  | _, _, _, .str x => .str x
  | _, _, h, .lst _ _ => h.elim
  | _, _, h, .tup s a => .tup (kp_tup st k s) (dpAll_kp st k h a)
theorem dpAll_kp {d c : Addr} {H H' : Hp} {n : Nat} (st : StAt H d c n) (k : Kp d c H H') : ∀ {vs : List V} {es : List PyData}, noLAll es → DpAll K H vs es → DpAll K H' vs es
  | _, _, _, .nil => .nil
  | _, _, h, .cons x t => .cons (dp_kp st k h.1 x) (dpAll_kp st k h.2 t)
end
mutual
theorem dp_go {H H' : Hp} (go : ∀ a us, SqT K H a us → SqT K H' a us) : ∀ {v : V} {e : PyData}, noLAll.noL e → Dp K H v e → Dp K H' v e
  | _, _, _, .non => .non
  | _, _, _, .bl b => .bl b
  | _, _, _, .int i => .int i
  | _, _, _, .str x => .str x
  | _, _, h, .lst _ _ => h.elim
  | _, _, h, .tup s a => .tup (go _ _ s) (dpAll_go go h a)
theorem dpAll_go {H H' : Hp} (go : ∀ a us, SqT K H a us → SqT K H' a us) : ∀ {vs : List V} {es : List PyData}, noLAll es → DpAll K H vs es → DpAll K H' vs es
  | _, _, _, .nil => .nil
  | _, _, h, .cons x t => .cons (dp_go go h.1 x) (dpAll_go go h.2 t)
end
theorem noL_map {α : Type} {f : α → PyData} (h : ∀ x, noLAll.noL (f x)) : ∀ l : List α, noLAll (l.map f)
  | [] => trivial
  | x :: r => ⟨h x, noL_map h r⟩
theorem noL_col (c : Col) : noLAll.noL (colD c) := ⟨trivial, trivial, trivial, trivial, trivial⟩
theorem noL_wash (r : Wsh) : noLAll.noL (washD r) := ⟨trivial, trivial, by cases r.2.2 <;> trivial, trivial⟩
theorem noL_pal (cs : List Col) (ws : List Wsh) : noLAll.noL (palD cs ws) := ⟨noL_map noL_col cs, noL_map noL_wash ws, trivial⟩
theorem dpAll_app {H : Hp} : ∀ {xs ys : List V} {ds es : List PyData}, DpAll K H xs ds → DpAll K H ys es → DpAll K H (xs ++ ys) (ds ++ es)
  | _, _, _, _, .nil, h => h
  | _, _, _, _, .cons h t, h2 => .cons h (dpAll_app t h2)
end
/-! ### how long a palette's text may be -/
structure PalOk (cs : List Col) (ws : List Wsh) : Prop where
  nc : cs.length ≤ 20
  nw : ws.length ≤ 60
  cn : ∀ c ∈ cs, c.1.length ≤ 9 ∧ (∀ x ∈ c.1.cps.toList, x < 1114112) ∧ c.2.1.natAbs < 10000 ∧ c.2.2.1.natAbs < 10000 ∧ c.2.2.2.natAbs < 10000
  wn : ∀ r ∈ ws, (r.1.length ≤ 9 ∧ ∀ x ∈ r.1.cps.toList, x < 1114112) ∧ (r.2.1.length ≤ 9 ∧ ∀ x ∈ r.2.1.cps.toList, x < 1114112) ∧ ∀ i, r.2.2 = some i → i.natAbs < 10000
theorem PalOk.addC {cs : List Col} {ws : List Wsh} {c : Col} (h : PalOk cs ws) (n : cs.length < 20) (ok : c.1.length ≤ 9 ∧ (∀ x ∈ c.1.cps.toList, x < 1114112) ∧ c.2.1.natAbs < 10000 ∧ c.2.2.1.natAbs < 10000 ∧ c.2.2.2.natAbs < 10000) : PalOk (cs ++ [c]) ws :=
  ⟨by rw [List.length_append]; exact n, h.nw, fun x hx => (List.mem_append.mp hx).elim (h.cn x) fun z => by rw [List.mem_singleton.mp z]; exact ok, h.wn⟩
theorem PalOk.addW {cs : List Col} {ws : List Wsh} {r : Wsh} (h : PalOk cs ws) (n : ws.length < 60) (ok : (r.1.length ≤ 9 ∧ ∀ x ∈ r.1.cps.toList, x < 1114112) ∧ (r.2.1.length ≤ 9 ∧ ∀ x ∈ r.2.1.cps.toList, x < 1114112) ∧ ∀ i, r.2.2 = some i → i.natAbs < 10000) : PalOk cs (ws ++ [r]) :=
  ⟨h.nc, by rw [List.length_append]; exact n, h.cn, fun x hx => (List.mem_append.mp hx).elim (h.wn x) fun z => by rw [List.mem_singleton.mp z]; exact ok⟩
theorem log_small {i : Int} (h : i.natAbs < 10000) : i.natAbs.log2 < 1920 := by
  by_cases z : i.natAbs = 0
  · rw [z]; decide
  · have := (Nat.log2_lt z).mpr (show i.natAbs < 2 ^ 14 from Nat.lt_of_lt_of_le h (by decide))
    omega
theorem fineAll_map {α : Type} {f : α → PyData} : ∀ {l : List α}, (∀ x ∈ l, fineAll.fine (f x)) → fineAll (l.map f)
  | [], _ => trivial
  | x :: r, h => ⟨h x List.mem_cons_self, fineAll_map fun y hy => h y (List.mem_cons_of_mem _ hy)⟩
theorem costAll_map {α : Type} {f : α → PyData} {b : Nat} : ∀ {l : List α}, (∀ x ∈ l, costAll.cost (f x) ≤ b) → costAll (l.map f) ≤ l.length * (b + 2)
  | [], _ => Nat.zero_le _
  | x :: r, h => by
    have h1 := h x List.mem_cons_self
    have h2 := costAll_map (l := r) fun y hy => h y (List.mem_cons_of_mem _ hy)
    show costAll.cost (f x) + 2 + costAll (r.map f) ≤ (r.length + 1) * (b + 2)
    rw [Nat.succ_mul]
    omega
theorem depthAll_map {α : Type} {f : α → PyData} {b : Nat} : ∀ {l : List α}, (∀ x ∈ l, (f x).depth ≤ b) → PyData.depthAll (l.map f) ≤ b
  | [], _ => Nat.zero_le _
  | x :: r, h => by
    show max (f x).depth (PyData.depthAll (r.map f)) ≤ b
    exact Nat.max_le.mpr ⟨h x List.mem_cons_self, depthAll_map fun y hy => h y (List.mem_cons_of_mem _ hy)⟩
theorem fine_col {c : Col} (h : c.1.length ≤ 9 ∧ (∀ x ∈ c.1.cps.toList, x < 1114112) ∧ c.2.1.natAbs < 10000 ∧ c.2.2.1.natAbs < 10000 ∧ c.2.2.2.natAbs < 10000) : fineAll.fine (colD c) :=
  ⟨fun x hx => Nat.lt_trans (h.2.1 x hx) (by decide), log_small h.2.2.1, log_small h.2.2.2.1, log_small h.2.2.2.2, trivial⟩
theorem fine_opt {o : Option Int} (h : ∀ i, o = some i → i.natAbs < 10000) : fineAll.fine (optD o) := by
  cases o with
  | none => trivial
  | some i => exact log_small (h i rfl)
theorem pal_fine {cs : List Col} {ws : List Wsh} (h : PalOk cs ws) : fineAll.fine (palD cs ws) :=
  ⟨fineAll_map fun c hc => fine_col (h.cn c hc), fineAll_map fun r hr => ⟨fun x hx => Nat.lt_trans ((h.wn r hr).1.2 x hx) (by decide), fun x hx => Nat.lt_trans ((h.wn r hr).2.1.2 x hx) (by decide), fine_opt (h.wn r hr).2.2, trivial⟩, trivial⟩
theorem cost_opt (o : Option Int) : costAll.cost (optD o) ≤ 1921 := by
  cases o with
  | none => decide
  | some i => exact Nat.le_refl _
theorem pal_cost {cs : List Col} {ws : List Wsh} (h : PalOk cs ws) : costAll.cost (palD cs ws) ≤ 1000000 := by
  have h1 : costAll (cs.map colD) ≤ cs.length * (10000 + 2) := costAll_map fun c hc => by
    have := (h.cn c hc).1
    show (10 * c.1.length + 2) + 2 + (1921 + 2 + (1921 + 2 + (1921 + 2 + 0))) + 3 ≤ 10000
    omega
  have h2 : costAll (ws.map washD) ≤ ws.length * (10000 + 2) := costAll_map fun r hr => by
    have a := (h.wn r hr).1.1
    have b := (h.wn r hr).2.1.1
    have c := cost_opt r.2.2
    show (10 * r.1.length + 2) + 2 + ((10 * r.2.1.length + 2) + 2 + (costAll.cost (optD r.2.2) + 2 + 0)) + 3 ≤ 10000
    omega
  have h3 := Nat.mul_le_mul_right 10002 h.nc
  have h4 := Nat.mul_le_mul_right 10002 h.nw
  show (costAll (cs.map colD) + 3) + 2 + ((costAll (ws.map washD) + 3) + 2 + 0) + 3 ≤ 1000000
  omega
theorem depth_opt (o : Option Int) : (optD o).depth = 0 := by cases o <;> rfl
theorem pal_depth (cs : List Col) (ws : List Wsh) : (palD cs ws).depth ≤ 3 := by
  have h1 : PyData.depthAll (cs.map colD) ≤ 1 := depthAll_map fun c _ => by show 1 ≤ 1; decide
  have h2 : PyData.depthAll (ws.map washD) ≤ 1 := depthAll_map fun r _ => by
    show max 0 (max 0 (max (optD r.2.2).depth 0)) + 1 ≤ 1
    rw [depth_opt]
    decide
  show max (PyData.depthAll (cs.map colD) + 1) (max (PyData.depthAll (ws.map washD) + 1) 0) + 1 ≤ 3
  omega
end Pot

namespace Pot
open PySem PySem.Spec PyProof.Rows L2
/-! ### words of letters -/
/-- at most n letters a to z -/
def Wd (n : Nat) (z : Str) : Prop := z.length ≤ n ∧ ∀ c ∈ z.cps.toList, 97 ≤ c ∧ c ≤ 122
theorem Wd.mono {n m : Nat} {z : Str} (h : Wd n z) (k : n ≤ m) : Wd m z := ⟨Nat.le_trans h.1 k, h.2⟩
theorem wd_add {n m : Nat} {a b : Str} (h : Wd n a) (k : Wd m b) : Wd (n + m) (a ++ b) := by
  refine ⟨by rw [strLen_append]; exact Nat.add_le_add h.1 k.1, fun c hc => ?_⟩
  have e : (a ++ b).cps.toList = a.cps.toList ++ b.cps.toList := by
    show (a.cps ++ b.cps).toList = _
    simp
  rw [e] at hc
  exact (List.mem_append.mp hc).elim (h.2 c) (k.2 c)
def az : List Nat := [97, 98, 99, 100, 101, 102, 103, 104, 105, 106, 107, 108, 109, 110, 111, 112, 113, 114, 115, 116, 117, 118, 119, 120, 121, 122]
theorem az_cps : (Str.ofString "abcdefghijklmnopqrstuvwxyz").cps.toList = az := by decide +kernel
theorem az_at : ∀ k : Nat, k < 26 → atI az ((k : Nat) : Int) = some (97 + k) := by unfold az; decide
theorem az_ix {i : Int} (h0 : 0 ≤ i) (h1 : i < 26) : atI (Str.ofString "abcdefghijklmnopqrstuvwxyz").cps.toList i = some (97 + i.toNat) := by
  rw [az_cps]
  have h := az_at i.toNat (by omega)
  rw [show ((i.toNat : Nat) : Int) = i by omega] at h
  exact h
theorem wd_sign {c : Nat} (h0 : 97 ≤ c) (h1 : c ≤ 122) : Wd 1 ⟨#[c]⟩ := ⟨Nat.le_refl _, fun d hd => by
  have e : d = c := by simpa using hd
  subst e; exact ⟨h0, h1⟩⟩
theorem wd_letter {i : Int} (h0 : 0 ≤ i) (h1 : i < 26) : Wd 1 ⟨#[97 + i.toNat]⟩ := wd_sign (by omega) (by omega)
theorem wd_nil : Wd 0 Str.empty := ⟨Nat.le_refl _, fun c hc => by have : c ∈ ([] : List Nat) := hc; simp at this⟩
theorem wd_join : ∀ {ys : List Str}, (∀ y ∈ ys, Wd 1 y) → Wd ys.length (Str.join Str.empty ys)
  | [], _ => wd_nil
  | [x], h => h x List.mem_cons_self
  | x :: y :: r, h => by
    have ih := wd_join (ys := y :: r) fun z hz => h z (List.mem_cons_of_mem _ hz)
    show Wd _ (x ++ Str.empty ++ Str.join Str.empty (y :: r))
    have h1 := wd_add (wd_add (h x List.mem_cons_self) wd_nil) ih
    exact h1.mono (by simp only [List.length_cons]; omega)
theorem cut_mem {z : Str} {lo hi : Option Int} {c : Nat} (h : c ∈ (cutS z lo hi).cps.toList) : c ∈ z.cps.toList := by
  unfold cutS at h
  have h2 : c ∈ (z.cps.toList.drop (HT.sIx z.length 0 lo)).take (HT.sIx z.length z.length hi - HT.sIx z.length 0 lo) := by simpa using h
  exact List.mem_of_mem_drop (List.mem_of_mem_take h2)
theorem cut_len (z : Str) (lo hi : Option Int) : (cutS z lo hi).length ≤ HT.sIx z.length z.length hi - HT.sIx z.length 0 lo := by
  unfold cutS
  show (List.toArray _).size ≤ _
  rw [List.size_toArray]
  exact List.length_take_le ..
theorem wd_head {n k : Nat} {z : Str} (h : Wd n z) : Wd k (cutS z none (some (k : Int))) := by
  refine ⟨Nat.le_trans (cut_len z none (some (k : Int))) ?_, fun c hc => h.2 c (cut_mem hc)⟩
  rw [HT.sIx_nat]
  omega
theorem wd_tail {n k : Nat} {z : Str} (h : Wd n z) : Wd (z.length - k) (cutS z (some (k : Int)) none) := by
  refine ⟨Nat.le_trans (cut_len z (some (k : Int)) none) ?_, fun c hc => h.2 c (cut_mem hc)⟩
  rw [HT.sIx_nat, HT.sIx_none]
  omega
theorem wd_cut {n : Nat} {z : Str} {lo hi : Option Int} (h : Wd n z) : Wd n (cutS z lo hi) := by
  refine ⟨Nat.le_trans (cut_len z lo hi) ?_, fun c hc => h.2 c (cut_mem hc)⟩
  have := HT.sIx_le z.length z.length (Nat.le_refl _) hi
  have := h.1
  omega
theorem wd_small {n : Nat} {z : Str} (h : Wd n z) (k : n ≤ 1000) : z.length ≤ sizeLine := Nat.le_trans h.1 (Nat.le_trans k (by decide))
theorem wd_codes {n : Nat} {z : Str} (h : Wd n z) : ∀ x ∈ z.cps.toList, x < 1114112 := fun x hx => by have := (h.2 x hx).2; omega
section
variable {K : PySem.W.Frag}
theorem kp_seq {d c l : Addr} {H H' : Hp} {xs : List V} (k : Kp d c H H') (n1 : l ≠ d) (n2 : l ≠ c) (h : SqL K H l xs) : SqL K H' l xs := by
  rcases h with (h | ⟨o, h⟩) | h
  · exact .inl (.inl (k _ _ n1 n2 h))
  · exact .inl (.inr ⟨o, k _ _ n1 n2 h⟩)
  · exact .inr h
end
end Pot

namespace Pot
open PySem PySem.Spec PyProof.Rows L2
/-! ### the drawing state of two objects, told by what stands beside it -/
section
variable {H H' : Hp} {d c : Addr} {n m : Nat} {S : List Addr} {x : Addr} {o : HO}
theorem kp_sm (k : Kp d c H H') : Sm [d, c] H H' := fun x o e => by
  have nm := off_mem e
  rw [off_out nm] at e ⊢
  exact k x o (fun z => nm (by rw [z]; simp)) (fun z => nm (by rw [z]; simp)) e
theorem sm_kp (s : Sm [d, c] H H') : Kp d c H H' := fun x o h1 h2 e => sm_at s (by simp [h1, h2]) e
theorem sm_two (h1 : d ∈ S) (h2 : c ∈ S) (s : Sm [d, c] H H') : Sm S H H' := sm_mono (fun x hx => by
  rcases List.mem_cons.mp hx with e | e
  · rw [e]; exact h1
  · rw [List.mem_singleton.mp e]; exact h2) s
theorem sm2_at (s : Sm [d, c] H H') (h1 : x ≠ d) (h2 : x ≠ c) (h : H x = some o) : H' x = some o := sm_at s (by simp [h1, h2]) h
theorem st_free (s : Sm [d, c] H H') (B : StAt H' d c n) (h : H' x = none) : H x = none := (sm_kp s).free B h
theorem StAt.here (B : StAt H d c n) : H d ≠ none ∧ H c ≠ none := by
  obtain ⟨_, xs, t, h1, h2, _⟩ := B
  constructor
  · intro z; rw [h1] at z; cases z
  · intro z; rw [h2] at z; cases z
theorem Live.st (L : Live S H) (B : StAt H' d c n) (s : Sm [d, c] H H') : Live S H' := fun x hx e => by
  by_cases h1 : x = d
  · rw [h1] at e; exact B.here.1 e
  by_cases h2 : x = c
  · rw [h2] at e; exact B.here.2 e
  cases h : H x with
  | none => exact L x hx h
  | some o => rw [sm2_at s h1 h2 h] at e; cases e
theorem Live.two (B : StAt H d c n) : Live [d, c] H := fun x hx e => by
  rcases List.mem_cons.mp hx with z | z
  · rw [z] at e; exact B.here.1 e
  · rw [List.mem_singleton.mp z] at e; exact B.here.2 e
theorem StAt.nd (B : StAt H d c n) (h : H x = none) : x ≠ d := (B.ne1 h).symm
theorem StAt.nc (B : StAt H d c n) (h : H x = none) : x ≠ c := (B.ne2 h).symm
end
end Pot

namespace Pot
open PySem PySem.Spec PyProof.Rows L2
/-! ### a box of three numbers whose last is at most n -/
def Bq (H : Hp) (b : Addr) (n : Nat) : Prop := ∃ x y z : Int, H b = some (.lst [.int x, .int y, .int z]) ∧ 0 ≤ z ∧ z ≤ n
section
variable {H H' : Hp} {b p : Addr} {n m : Nat} {o : HO}
theorem Bq.bx (B : Bq H b n) : Bx H b := by
  obtain ⟨x, y, z, h, _⟩ := B
  exact ⟨x, y, z, h⟩
theorem Bq.same (B : Bq H b n) (s : Same H H') : Bq H' b n := by
  obtain ⟨x, y, z, h, h2⟩ := B
  exact ⟨x, y, z, s _ _ h, h2⟩
theorem Bq.put (B : Bq H b n) (h : H p = none) : Bq (upd H p o) b n := B.same (same_upd h)
theorem Bq.wr (B : Bq H b n) (h : p ≠ b) : Bq (upd H p o) b n := by
  obtain ⟨x, y, z, e, h2⟩ := B
  exact ⟨x, y, z, by rw [upd_ne h.symm]; exact e, h2⟩
theorem Bq.mono (B : Bq H b n) (h : n ≤ m) : Bq H b m := by
  obtain ⟨x, y, z, e, h1, h2⟩ := B
  exact ⟨x, y, z, e, h1, by omega⟩
theorem Bq.ne (B : Bq H b n) (h : H p = none) : p ≠ b := B.bx.ne h
theorem Live.q (B : Bq H b n) : Live [b] H := Live.one B.bx
end
theorem b01 (k : Bool) : -(2 ^ 64 : Int) < (if k = true then 1 else 0) ∧ (if k = true then 1 else 0) < (2 ^ 64 : Int) := by cases k <;> decide
theorem CDivW.of {i j : Int} (h0 : 0 < j) (h1 : j < 2 ^ 64) : CDivW i j := by
  refine ⟨h0, ?_⟩
  have z : j.natAbs ≠ 0 := by omega
  have := (Nat.log2_lt z).mpr (show j.natAbs < 2 ^ 64 by omega)
  omega
mutual
theorem gd_lay {m : Nat} : ∀ d : PyData, gd m d → d.canLay0 = true
  | .none, _ => rfl
  | .bool _, _ => rfl
  | .int _, _ => rfl
  | .str x, g => by
    show x.cps.all (fun c => decide (c < 0x110000)) = true
    rw [← Array.all_toList, List.all_eq_true]
    exact fun c hc => decide_eq_true (g.2 c hc)
  | .list xs, g => gdAll_lay xs g
  | .tuple xs, g => gdAll_lay xs g
  | .dict _, g => g.elim
theorem gdAll_lay {m : Nat} : ∀ ds : List PyData, gdAll m ds → PyData.canLayAll0 ds = true
  | [], _ => rfl
  | x :: xs, g => by
    show (x.canLay0 && PyData.canLayAll0 xs) = true
    rw [gd_lay x g.1, gdAll_lay xs g.2]; rfl
end
theorem Th.shaped {m C D W : Nat} {d : PyData} (h : Th m C D W d) (hD : D ≤ 64) : SeqAt.shaped d = true := by
  unfold SeqAt.shaped
  rw [gd_lay d h.g, decide_eq_true (Nat.le_trans h.d hD)]; rfl
theorem gd_shaped {m : Nat} {d : PyData} (h : gd m d) (hD : d.depth ≤ 64) : SeqAt.shaped d = true := by
  unfold SeqAt.shaped
  rw [gd_lay d h, decide_eq_true hD]; rfl
end Pot

namespace Pot
open PySem PySem.Spec PyProof.Rows L2
/-- a row that tells of these two -/
def mat (a : Option Str) (b : Str) (r : Wsh) : Bool := decide (some r.1 = a) && decide (r.2.1 = b)
def namD : Option Str → PyData
  | none => .none
  | some z => .str z
theorem washF_filter (a : Option Str) (b : Str) : ∀ ws : List Wsh, washF ws a b = match ws.filter (mat a b) with
    | [] => some 0
    | r :: _ => r.2.2
  | [] => rfl
  | r :: ws => by
    show (if some r.1 = a ∧ r.2.1 = b then r.2.2 else washF ws a b) = _
    rw [List.filter_cons]
    by_cases h : some r.1 = a ∧ r.2.1 = b
    · have e : mat a b r = true := by unfold mat; rw [decide_eq_true h.1, decide_eq_true h.2]; rfl
      rw [if_pos h, if_pos e]
    · have e : ¬ mat a b r = true := by
        unfold mat
        rw [Bool.and_eq_true, decide_eq_true_eq, decide_eq_true_eq]
        exact h
      rw [if_neg h, if_neg e]
      exact washF_filter a b ws
theorem str_beq (x y : Str) : (x == y) = decide (x = y) := by
  by_cases h : x = y
  · subst h; rw [decide_eq_true rfl]; exact beq_self_eq_true x
  · rw [decide_eq_false h]; exact beq_false_of_ne h
theorem eqv_mat (a : Option Str) (b : Str) (r : Wsh) : PyData.eqv (.tuple [.str r.1, .str r.2.1]) (.tuple [namD a, .str b]) = mat a b r := by
  unfold mat
  cases a with
  | none =>
    rw [decide_eq_false (by intro z; cases z)]
    rfl
  | some z =>
    show ((r.1 == z) && ((r.2.1 == b) && true)) = _
    rw [str_beq, str_beq, Bool.and_true]
    congr 1
    by_cases h : r.1 = z
    · rw [decide_eq_true h, decide_eq_true (by rw [h])]
    · rw [decide_eq_false h, decide_eq_false fun q => h (Option.some.inj q)]
section
variable {K : PySem.W.Frag} {H : Hp}
theorem nam_dp : ∀ a : Option Str, Dp K H (namV a) (namD a)
  | none => .non
  | some z => .str z
theorem dpAll_opts : ∀ l : List Wsh, DpAll K H (l.map fun r => optV r.2.2) (l.map fun r => optD r.2.2)
  | [] => .nil
  | r :: l => .cons (opt_dp r.2.2) (dpAll_opts l)
end
/-- signs that there are -/
def Sg (z : Str) : Prop := ∀ x ∈ z.cps.toList, x < 1114112
theorem strOk_len {z : Str} (h : Sg z) : PyData.strOk z = true := by
  unfold PyData.strOk
  rw [Array.all_eq_true_iff_forall_mem]
  intro x hx
  exact decide_eq_true (h x (Array.mem_toList_iff.mpr hx))
theorem shaped_two {x y : Str} (h : Sg x) (k : Sg y) : SeqAt.shaped (.tuple [.str x, .str y]) = true := by
  show (PyData.strOk x && (PyData.strOk y && true)) && decide (max 0 (max 0 0) + 1 ≤ 64) = true
  rw [strOk_len h, strOk_len k]
  rfl
theorem shaped_nam {a : Option Str} {y : Str} (h : ∀ z, a = some z → Sg z) (k : Sg y) : SeqAt.shaped (.tuple [namD a, .str y]) = true := by
  cases a with
  | none =>
    show (true && (PyData.strOk y && true)) && decide (max 0 (max 0 0) + 1 ≤ 64) = true
    rw [strOk_len k]
    rfl
  | some z => exact shaped_two (h z rfl) k
theorem shaped_opts (l : List Wsh) : SeqAt.shaped (.list (l.map fun r => optD r.2.2)) = true := by
  have h1 : ∀ l : List Wsh, PyData.canLayAll0 (l.map fun r => optD r.2.2) = true := by
    intro l
    induction l with
    | nil => rfl
    | cons r l ih =>
      show (PyData.canLay0 (optD r.2.2) && PyData.canLayAll0 (l.map fun r => optD r.2.2)) = true
      rw [ih]
      cases r.2.2 <;> rfl
  have h2 : PyData.depthAll (l.map fun r => optD r.2.2) ≤ 0 := depthAll_map fun r _ => by rw [depth_opt]; exact Nat.le_refl _
  show (PyData.canLayAll0 (l.map fun r => optD r.2.2) && decide (PyData.depthAll (l.map fun r => optD r.2.2) + 1 ≤ 64)) = true
  rw [h1, decide_eq_true (by omega)]
  rfl
end Pot

namespace Pot
open PySem PySem.Spec PyProof.Rows L2
section
variable {X : Cx} {K : PySem.W.Frag}
/-- len of a set of ints -/
def rLenSet (w : World) : List V → Hp → VK → Prop := fun xs H Q => ∃ (a : Addr) (S : Int → Bool) (n : Nat), xs = [V.ref a] ∧ H a = some (SetO w a S n) ∧ Q (.int n) H
theorem cr_lenSet : CallR X (.builtin "len") (rLenSet X.w) := by
  intro pins s σ H vs us Q I r h
  obtain ⟨a, S, n, rfl, ha, q⟩ := h
  rw [Vals.ref1 r]
  obtain ⟨o, es, ep, t, ho, hex, hd, _, _, _, hb, hf, rfl, _⟩ := setO_get I ha
  exact PySem.call_len_set ho hex hd hf (by unfold scanBound at hb; omega) ⟨.int _, H, I.tok _, ⟨_, rfl⟩, q⟩
theorem kc_lenSet {w : World} (hw : X.w = w := by rfl) : CallR X (.builtin "len") (rLenSet w) := by subst hw; exact cr_lenSet
/-- repr of any data -/
def rReprA (K : PySem.W.Frag) : List V → Hp → VK → Prop := fun xs H Q => ∃ (x : V) (d : PyData), xs = [x] ∧ Dp K H x d ∧ fineAll.fine d ∧ d.depth ≤ 60 ∧ costAll.cost d ≤ 16777216 ∧ Q (.str d.shown) H
theorem cr_reprA (gd : X.A.guards = some []) (hu : X.A.units + 64 < cLine) : CallR X (.builtin "repr") (rReprA X.K) := by
  intro pins s σ H vs us Q I r h
  obtain ⟨x, d, rfl, dp, sh, dep, sz, q⟩ := h
  obtain ⟨u, rfl, rx⟩ := vals1 r
  have sz2 := Nat.le_trans (shown_len d sh) (by rw [sizeLine_eq]; exact sz : costAll.cost d ≤ sizeLine)
  cases x with
  | ref a =>
    cases rx
    obtain ⟨as, rd⟩ := Dp.reads I d (.ref a) (.ref a) dp rfl
    refine repr_of_reads' rd (fine_show d sh) (fun z => ?_) gd (by omega) (fun _ _ e => e) (fun h' u tk k => ⟨.str d.shown, H, I.kept k, ⟨u, rfl⟩, q⟩) sz2
    rw [dp_noDict dp] at z
    cases z
  | int i =>
    cases dp
    obtain ⟨t, rfl⟩ := rx
    exact PySem.P.repr_of_int sh ⟨.str _, H, I.tok _, ⟨_, rfl⟩, q⟩
  | str z =>
    cases dp
    obtain ⟨t, rfl⟩ := rx
    exact PySem.P.repr_of_str ⟨.str _, H, I.tok _, ⟨_, rfl⟩, q⟩ sz2
  | bl b =>
    cases dp
    cases rx
    refine PySem.P.repr_of_bool ⟨.str _, H, I.tok _, ⟨_, rfl⟩, ?_⟩
    exact q
  | non =>
    cases dp
    cases rx
    exact PySem.P.repr_of_none ⟨.str _, H, I.tok _, ⟨_, rfl⟩, q⟩
  | _ => cases dp
theorem kc_reprA (gd : X.A.guards = some []) (hu : X.A.units + 64 < cLine) (h : X.K = K := by rfl) : CallR X (.builtin "repr") (rReprA K) := h ▸ cr_reprA gd hu
end
theorem short_of {α : Type} [DecidableEq α] : ∀ {ns : List α}, ¬ ns.Nodup → ∃ ns' : List α, ns'.length < ns.length ∧ ∀ k ∈ ns, k ∈ ns'
  | [], h => (h List.nodup_nil).elim
  | x :: ns, h => by
    by_cases hx : x ∈ ns
    · exact ⟨ns, by simp, fun k hk => by
        rcases List.mem_cons.mp hk with e | e
        · rw [e]; exact hx
        · exact e⟩
    · obtain ⟨ns', l, s⟩ := short_of (ns := ns) fun hn => h (List.nodup_cons.mpr ⟨hx, hn⟩)
      exact ⟨x :: ns', by simp only [List.length_cons]; omega, fun k hk => by
        rcases List.mem_cons.mp hk with e | e
        · rw [e]; exact List.mem_cons_self
        · exact List.mem_cons_of_mem _ (s k e)⟩
theorem set_count {ks ns : List Int} (hk : ks.Nodup) (h : ∀ k, k ∈ ks ↔ k ∈ ns) : ks.length ≤ ns.length ∧ (ks.length = ns.length ↔ ns.Nodup) := by
  have le := nodup_le hk fun k x => (h k).mp x
  refine ⟨le, fun e => ?_, fun hn => Nat.le_antisymm le (nodup_le hn fun k x => (h k).mpr x)⟩
  by_cases hn : ns.Nodup
  · exact hn
  · obtain ⟨ns', l, s⟩ := short_of hn
    have := nodup_le hk fun k x => s k ((h k).mp x)
    omega
end Pot

namespace Pot
open PySem PySem.Spec PyProof.Rows L2
section
variable {X : Cx} {K : PySem.W.Frag}
theorem ko_inD (hu : X.A.units + 65 < cLine) (h : X.K = K := by rfl) : OpR X (compareOp .In) (rInD K) := h ▸ op_inD hu
theorem ko_notInD (hu : X.A.units + 65 < cLine) (h : X.K = K := by rfl) : OpR X (compareOp .NotIn) (rNotInD K) := h ▸ op_notInD hu
/-- a text thrice -/
def rRep3 : R2 := fun x y H Q => ∃ z : Str, x = .str z ∧ y = .int 3 ∧ z.length ≤ 100000 ∧ ∀ z' : Str, z'.length ≤ 3 * z.length → (∀ c ∈ z'.cps.toList, c ∈ z.cps.toList) → Q (.str z') H
theorem mul3_len (z : Str) : (Txt.mul z 3).length ≤ 3 * z.length ∧ ∀ c ∈ (Txt.mul z 3).cps.toList, c ∈ z.cps.toList := by
  unfold Txt.mul
  rw [if_neg (show ¬ (3 : Int) < 1 by decide)]
  split
  · exact ⟨by omega, fun c h => h⟩
  · constructor
    · show Array.size _ ≤ _
      simp [List.replicate]
      show z.cps.size + (z.cps.size + z.cps.size) ≤ 3 * z.cps.size
      omega
    · intro c h
      simp [List.replicate] at h
      simpa using h
theorem op_rep3 : OpR X (binaryOp .Mult) rRep3 := by
  intro pins sh sg H xv yv v1 u1 Q I r1 r2 h
  obtain ⟨z, rfl, rfl, hz, q⟩ := h
  obtain ⟨tk1, rfl⟩ := r1
  obtain ⟨tk2, rfl⟩ := r2
  have m3 := mul3_len z
  refine SB.mul ⟨by decide, fun _ _ hh => ?_, fun _ _ => ?_⟩ (fun tt kk => ⟨.str (Txt.mul z 3), H, I.tok _, ⟨_, rfl⟩, q _ m3.1 m3.2⟩)
  · have : ((2 : Int) ^ 63 - 1) / 3 = 3074457345618258602 := by decide
    omega
  · have e : (3 : Int).toNat = 3 := rfl
    rw [e]
    show decide _ = false
    refine decide_eq_false ?_
    have := sizeLine_eq
    omega
end
end Pot

namespace Pot
open PySem PySem.Spec PyProof.Rows L2
open Sem (wp)
/-! ### enumerate of a list or a tuple -/
set_option maxHeartbeats 1000000 in
theorem en_new {v : Value} {ob : Obj} {Ok : Heap → Prop} (B : Begins v ob Ok) :
    Meets (Builtin.«enumerate.__new__» ⟨[.type "enumerate", v], []⟩) (fun _ R s => Ok s.heap ∧ R (.ok (.ret (.ref (s.heap.push ob).objs.size))) { s with heap := (s.heap.push ob).push { cls := .type "enumerate", data := .fields #[.none, .bool false, .ref s.heap.objs.size, rawInt 0, .none, .none] } }) :=
  .of_wp fun prog w A R st hst => by
    obtain ⟨hp, gl, dd, tt, oo⟩ := st; obtain ⟨ok1, fin⟩ := hst; have isub := sub_enumerate
    have go : ∀ {A1 : Around} {E1 : Value → Shared → Prop} {Q1 : Value → Shared → Prop}, Q1 (.ref hp.objs.size) ⟨hp.push ob, gl, dd, tt, oo⟩ → wpAny (model prog w) A1 (pyIter v) Q1 E1 ⟨hp, gl, dd, tt, oo⟩ := fun z => B.iter prog w _ _ ⟨hp, gl, dd, tt, oo⟩ _ ok1 z
    wp_walk using go
    refine wpAny_stack_any fun stk => wpAny_pure ?_
    split
    · rename_i cc _ _ _ _ _; cases (cc == Value.type "enumerate") <;> (wp_walk using go; exact ⟨_, rfl, fin⟩)
    · wp_walk using go; exact ⟨_, rfl, fin⟩
/-- some untracked cells written, nothing new -/
theorem inv_ch {X : Cx} {pins : List (Addr × Obj)} {σ : L2.St} {H : Hp} {s : Shared} {h2 : Heap} {tk : Nat} {ch : List Addr} (I : Inv X pins σ H s) (kp : ∀ b o, b ∉ ch → s.heap.get? b = some o → h2.get? b = some o) (fo : ∀ b ∈ ch, FpOk X pins H b) :
    Inv X pins σ H { s with heap := h2, toks := tk } := by
  have out : ∀ c u, H c = some u → c ∉ ch := fun c u e z => by have := (fo c z).1; rw [this] at e; cases e
  refine I.step (g' := s.gens) (d' := s.drawn) (ch := ch) (fun c hc => let ⟨_, a2, _, a4, a5, a6⟩ := fo c hc; ⟨a4, a2, a5, a6⟩) (fun c o _ _ n e _ => kp c o n e) (fun c o _ _ n e _ => ⟨o.slots, kp c o n e⟩) (fun _ _ _ _ z => z) (fun c o n e => ⟨o, kp c o n e⟩) (fun _ _ z => z) (fun _ _ _ z => z) (fun c ps e => ⟨#[], by rw [e]; simp⟩) (fun mm hm => ?_) (fun c u e => ?_) I.bare
  · obtain ⟨o, e1, e2, ho, rest⟩ := hm; exact ⟨o, e1, e2, kp _ o (fun z => (fo _ z).2.1 rfl) ho, rest⟩
  · refine (I.hok c u e).stay (fun c2 v hc q => kp c2 v ?_ q) (fun _ z => z) fun _ _ z => z
    rcases hc with z | z
    · rw [z]; exact out c u e
    · exact out c2 _ z
def ItT (K : PySem.W.Frag) (a : Addr) : It :=
  ⟨fun i H => ∃ (xs : List V) (x : V), SqT K H a xs ∧ xs[i]? = some x, fun i H v H' => ∃ T x, v = .ref T ∧ H T = none ∧ H' = upd H T (.tup [.int (i : Nat), x]) ∧ ∀ xs, SqT K H a xs → xs[i]? = some x, fun i H => ∃ xs : List V, SqT K H a xs ∧ xs.length ≤ i⟩
/-- an iterator of a tuple that has come to its end -/
theorem drawsEnd {prog : Program} {w : World} {A : Around} (hh : A.handled = none) (it t : Addr) (items : Array Value) (i : Nat) (hi : items[i]? = none) :
    Draws prog w A it [it, t] i (fun _ _ => False) (fun j h => j = i ∧ h.IsTupleIter it t j ∧ h.IsTuple t items) where
  live := fun _ _ st => let ⟨o, ho, _⟩ := st.2.1; ⟨o, ho⟩
  frame := fun _ _ _ st hk => ⟨st.1, st.2.1.at fun o e => hk it (by simp) o e, st.2.2.at fun o e => hk t (by simp) o e⟩
  item := fun j _ _ _ hj st _ => absurd st.1 (Nat.ne_of_lt hj)
  done := fun s Q E st hE => wpAny_nextOf_tuple_end hh st.2.1 st.2.2 hi hE
theorem turn_enT {P : Program} {w : World} {K : PySem.W.Frag} {elts : List Expr} {kk : Nat} {tpos : Pos} (a e it : Addr) (ne1 : e ≠ it) :
    Turn P w K (.Tuple elts kk tpos) (ItT K a) [e, it] e (fun i h => (∃ old, IsEnum h e it (0 + ((i : Nat) : Int)) old) ∧ h.IsTupleIter it a i) where
  mem := by simp
  obj := fun i h st b hb => by
    obtain ⟨⟨old, he⟩, ⟨o, ho, hc, hd⟩⟩ := st
    rcases List.mem_cons.mp hb with z | z
    · rw [z]; exact ⟨_, he, fun v q => nomatch q⟩
    · rw [List.mem_singleton.mp z]; exact ⟨o, ho, fun v q => by rw [hd] at q; cases q⟩
  keep := fun i h h' st k => let ⟨⟨old, he⟩, hi⟩ := st; ⟨⟨old, k e (by simp) _ he⟩, hi.at fun o q => k it (by simp) o q⟩
  item := by
    intro X q1 q2 q3 hc i pins s σ H E I hf st hg; subst q1 q2 q3
    obtain ⟨⟨old, he⟩, hit⟩ := st
    obtain ⟨xs, x, hq, hx⟩ := hg
    obtain ⟨its, vals_, p, _⟩ := I.tuple hq
    obtain ⟨u, hu, ru⟩ := vals_.get hx
    have at_ : its.toArray[i]? = some u := by simpa using hu
    have hlt : i < its.toArray.size := (Array.getElem?_eq_some_iff.mp at_).1
    have nt : ∀ b ∈ [e, it], a ≠ b := fun b hb z => by
      obtain ⟨o, ho, cl, _⟩ := p
      rcases List.mem_cons.mp hb with y | y
      · rw [z, y] at ho
        rw [show s.heap.get? e = _ from he] at ho; cases ho; injection cl with cl; exact absurd cl (by decide)
      · rw [z, List.mem_singleton.mp y] at ho
        obtain ⟨o2, ho2, cl2, _⟩ := hit
        rw [ho2] at ho; cases ho
        rw [cl2] at cl; injection cl with cl; exact absurd cl (by decide)
    have G := GoesN.enumFrom (elts := elts) (x1 := kk) (pos := tpos) 0 (Draws.tuple (prog := X.prog) (w := X.w) (A := X.A.in1) (I.ok.hd hc) it a (nt it (by simp)) its.toArray) e ne1 (by simp [ne1, (nt e (by simp)).symm]) (by simp)
    refine G.goes i s _ _ hlt ⟨⟨old, he⟩, hit, p⟩ fun v h2 tk hY st2 hk _ => ?_
    obtain ⟨T, t, u2, rfl, hn, hu2, hT⟩ := hY
    have eu : u2 = u := Option.some.inj (hu2.symm.trans at_)
    subst eu
    rw [Int.zero_add] at hT
    have new : ObjOk X.prog X.w (upd H T (.tup [.int (i : Nat), x])) h2 T (.tup [.int (i : Nat), x]) := ⟨by show 2 ≤ sizeLine; decide, [.int i t, u2], .cons ⟨_, rfl⟩ (.cons ru .nil), hT⟩
    have I1 : Inv X pins σ (upd H T (.tup [.int (i : Nat), x])) { s with heap := h2, toks := tk } := I.turnedNew (ch := [e, it]) (fun b ob hb q => hk b ob hb q) hf hn new
    refine ⟨.ref T, _, I1, rfl, ⟨T, x, rfl, I.hok.fresh hn, rfl, fun ys hy => by rw [I.tuple_inj hy hq]; exact hx⟩, ⟨st2.1, st2.2.1⟩, fun b hb => ?_⟩
    have hb0 := (hf b hb).1
    have hbT : b ≠ T := by
      rcases List.mem_cons.mp hb with y | y
      · rw [y]; exact Nat.ne_of_lt (Nat.lt_of_lt_of_le (Heap.lt_size he) hn)
      · rw [List.mem_singleton.mp y]
        obtain ⟨o2, ho2, _⟩ := hit
        exact Nat.ne_of_lt (Nat.lt_of_lt_of_le (Heap.lt_size ho2) hn)
    rw [upd_ne hbT]; exact hb0
  done := by
    intro X q1 q2 q3 hc i pins s σ H E I hf st hg; subst q1 q2 q3
    obtain ⟨⟨old, he⟩, hit⟩ := st
    obtain ⟨xs, hq, hx⟩ := hg
    obtain ⟨its, vals_, p, _⟩ := I.tuple hq
    have hl := vals_.length
    have nt : ∀ b ∈ [e, it], a ≠ b := fun b hb z => by
      obtain ⟨o, ho, cl, _⟩ := p
      rcases List.mem_cons.mp hb with y | y
      · rw [z, y] at ho
        rw [show s.heap.get? e = _ from he] at ho; cases ho; injection cl with cl; exact absurd cl (by decide)
      · rw [z, List.mem_singleton.mp y] at ho
        obtain ⟨o2, ho2, cl2, _⟩ := hit
        rw [ho2] at ho; cases ho
        rw [cl2] at cl; injection cl with cl; exact absurd cl (by decide)
    have G := GoesN.enumFrom (elts := elts) (x1 := kk) (pos := tpos) 0 (drawsEnd (prog := X.prog) (w := X.w) (A := X.A.in1) (I.ok.hd hc) it a its.toArray i (by simp; omega)) e ne1 (by simp [ne1, (nt e (by simp)).symm]) (by simp)
    exact G.stops s _ _ ⟨⟨old, he⟩, rfl, hit, p⟩ fun h2 tk hk _ => inv_ch I hk hf
  self := fun _ _ _ _ _ st fin => let ⟨⟨_, he⟩, _⟩ := st; wpAny_pyIter_enum he fin
/-- enumerate(v), v a list or a tuple -/
def iEnA (K : PySem.W.Frag) (ta : TA) : TI := fun σ H R => ta σ H fun vs H1 => ∃ a xs, vs = [.ref a] ∧ ((SqL K H1 a xs ∧ R (Ite K a) H1) ∨ (SqT K H1 a xs ∧ R (ItT K a) H1))
theorem pi_enA {X : Cx} {e : Expr} {ta : TA} {p pos tpos : Pos} {elts : List Expr} {kk : Nat} (hg : Gl X "enumerate") (hm : X.mg "enumerate" = none) (ha : PA X [e] ta) (hs : starEach [e] X.env = [(false, eval e X.env)] := by rfl) :
    PI X (.Tuple elts kk tpos) (.Call (.Name "enumerate" p) [e] [] pos) (iEnA X.K ta) := by
  refine ⟨fun pins s σ H R I hi => ?_⟩
  refine Call_ (ld_blt I hg hm boot_enumerate (PyProof.Rows.callWith_type1 (thn (ha.run pos pins s σ H _ I hi) fun us s1 ⟨vs, H1, I1, r1, q1⟩ => ?_) hs rfl))
  obtain ⟨a, xs, ex, q⟩ := q1
  subst ex
  cases r1 with
  | cons r rr =>
    cases rr; cases r
    rcases q with ⟨hq, q⟩ | ⟨hq, q⟩
    · obtain ⟨its, rv, p2, hz⟩ := I1.list hq
      refine call_enumerate_list p2.isList fun h2 he hit hsz hk => wpAny_pyIter_enum he ?_
      refine ⟨s1.heap.objs.size + 1, [s1.heap.objs.size + 1, s1.heap.objs.size], _, _, H1, rfl, I1.kept (t' := s1.toks) hk, turn_enum a (s1.heap.objs.size + 1) s1.heap.objs.size, ⟨⟨.none, he⟩, hit, Nat.succ_ne_self _⟩, fun b hb => ?_, q⟩
      have hge : s1.heap.objs.size ≤ b := by
        rcases List.mem_cons.mp hb with z | z
        · rw [z]; exact Nat.le_add_right _ _
        · rw [List.mem_singleton.mp z]; exact Nat.le_refl _
      exact I1.fpOk hge (I1.hok.fresh hge)
    · obtain ⟨its, rv, p2, hz⟩ := I1.tuple hq
      refine callType_new F.called_enumerate (by decide) (F.typeCall_enumerate_1 _) (F.newCall_enumerate_1 _) (fun obj => F.args_object_init_2 obj _) F.entry_enumerate_new (en_new (begins_tuple a its.toArray)) ⟨p2, ?_⟩
      have sz : (s1.heap.push { cls := .type "tuple_iterator", data := .fields #[.ref a, .int 0 0] }).objs.size = s1.heap.objs.size + 1 := Heap.size_push ..
      show _ ∧ _
      rw [sz]
      have he : IsEnum ((s1.heap.push { cls := .type "tuple_iterator", data := .fields #[.ref a, .int 0 0] }).push { cls := .type "enumerate", data := .fields #[.none, .bool false, .ref s1.heap.objs.size, rawInt 0, .none, .none] }) (s1.heap.objs.size + 1) s1.heap.objs.size (0 + ((0 : Nat) : Int)) .none := by
        have g := Heap.get?_push_size (s1.heap.push { cls := .type "tuple_iterator", data := .fields #[.ref a, .int 0 0] }) (o := { cls := .type "enumerate", data := .fields #[.none, .bool false, .ref s1.heap.objs.size, rawInt 0, .none, .none] }) rfl
        rw [sz] at g; exact g
      refine ⟨⟨_, he, rfl⟩, wpAny_pyIter_enum he ⟨s1.heap.objs.size + 1, [s1.heap.objs.size + 1, s1.heap.objs.size], _, _, H1, rfl, I1.kept (t' := s1.toks) (fun b o z => Heap.get?_push_of_some _ (Heap.get?_push_of_some _ z)), turn_enT a (s1.heap.objs.size + 1) s1.heap.objs.size (Nat.succ_ne_self _), ⟨⟨.none, he⟩, ⟨_, Heap.get?_push_of_some _ (Heap.get?_push_size _ rfl), rfl, rfl⟩⟩, fun b hb => ?_, q⟩⟩
      have hge : s1.heap.objs.size ≤ b := by
        rcases List.mem_cons.mp hb with z | z
        · rw [z]; exact Nat.le_add_right _ _
        · rw [List.mem_singleton.mp z]; exact Nat.le_refl _
      exact I1.fpOk hge (I1.hok.fresh hge)
theorem walk_enT {K : PySem.W.Frag} {a : Addr} {xs : List V} : Walk (ItT K a) xs.length (fun H => SqT K H a xs) (YPair (fun i => some (.int (i : Nat))) (fun i => xs[i]?)) := by
  refine ⟨fun i _ hi hs => ⟨xs, xs[i], hs, by simp [hi]⟩, fun _ hs => ⟨xs, hs, Nat.le_refl _⟩, fun i H v H2 _ hs y => ?_⟩
  obtain ⟨T, x, e1, e2, e3, e4⟩ := y
  exact ⟨T, .int (i : Nat), x, e1, e2, e3, rfl, e4 xs hs⟩
theorem ko_catA {X : Cx} {K : PySem.W.Frag} (h : X.K = K := by rfl) : OpR X (binaryOp .Add) (rCatA K) := h ▸ op_catA
theorem ki_enA {X : Cx} {K : PySem.W.Frag} {e : Expr} {ta : TA} {p pos tpos : Pos} {elts : List Expr} {kk : Nat} (hg : Gl X "enumerate") (hm : X.mg "enumerate" = none) (ha : PA X [e] ta) (hs : starEach [e] X.env = [(false, eval e X.env)] := by rfl) (h : X.K = K := by rfl)
    : PI X (.Tuple elts kk tpos) (.Call (.Name "enumerate" p) [e] [] pos) (iEnA K ta) := h ▸ pi_enA hg hm ha hs
end Pot

namespace Pot
open PySem PySem.Spec PyProof.Rows L2
open Sem (wp)
/-! ### zip of three lists of one length -/
def It3 (K : PySem.W.Frag) (a b c : Addr) : It :=
  ⟨fun i H => ∃ (xs ys zs : List V) (x y z : V), SqL K H a xs ∧ SqL K H b ys ∧ SqL K H c zs ∧ xs[i]? = some x ∧ ys[i]? = some y ∧ zs[i]? = some z,
   fun i H v H2 => ∃ T x y z, v = .ref T ∧ H T = none ∧ H2 = upd H T (.tup [x, y, z]) ∧ (∀ xs, SqL K H a xs → xs[i]? = some x) ∧ (∀ ys, SqL K H b ys → ys[i]? = some y) ∧ ∀ zs, SqL K H c zs → zs[i]? = some z,
   fun i H => ∃ xs ys zs : List V, SqL K H a xs ∧ SqL K H b ys ∧ SqL K H c zs ∧ xs.length ≤ i ∧ ys.length ≤ i ∧ zs.length ≤ i⟩
/-- an iterator of a list that has come to its end -/
theorem drawsEndL {prog : Program} {w : World} {A : Around} (hh : A.handled = none) (it t : Addr) (items : Array Value) (i : Nat) (hi : items[i]? = none) :
    Draws prog w A it [it, t] i (fun _ _ => False) (fun j h => j = i ∧ h.IsListIter it t j ∧ h.IsList t items) where
  live := fun _ _ st => let ⟨o, ho, _⟩ := st.2.1; ⟨o, ho⟩
  frame := fun _ _ _ st hk => ⟨st.1, st.2.1.at fun o e => hk it (by simp) o e, st.2.2.at fun o e => hk t (by simp) o e⟩
  item := fun j _ _ _ hj st _ => absurd st.1 (Nat.ne_of_lt hj)
  done := fun s Q E st hE => wpAny_nextOf_list_end hh st.2.1 st.2.2 hi hE
theorem turn_z3 {P : Program} {w : World} {K : PySem.W.Frag} {elts : List Expr} {kk : Nat} {tpos : Pos} {a b c z TI TO i1 i2 i3 : Addr} (D : ZipSep3 z TI TO i1 i2 i3 [i1, a] [i2, b] [i3, c]) (n1 : a ≠ i1) (n2 : b ≠ i2) (n3 : c ≠ i3) :
    Turn P w K (.Tuple elts kk tpos) (It3 K a b c) [z, TI, TO, i1, i2, i3] z (fun i h => IsZip h z TI TO .none ∧ IsTupOf3 h TI (.ref i1) (.ref i2) (.ref i3) ∧ (∃ x y u, IsTupOf3 h TO x y u) ∧ h.IsListIter i1 a i ∧ h.IsListIter i2 b i ∧ h.IsListIter i3 c i) where
  mem := by simp
  obj := fun i h st m hm => by
    obtain ⟨hz, hTI, ⟨x, y, u, hTO⟩, ⟨o1, e1, _, d1⟩, ⟨o2, e2, _, d2⟩, ⟨o3, e3, _, d3⟩⟩ := st
    simp only [List.mem_cons, List.not_mem_nil, or_false] at hm
    rcases hm with e | e | e | e | e | e
    · subst e; exact ⟨_, hz, fun v q => nomatch q⟩
    · subst e; exact ⟨_, hTI, fun v q => nomatch q⟩
    · subst e; exact ⟨_, hTO, fun v q => nomatch q⟩
    · subst e; exact ⟨o1, e1, fun v q => by rw [d1] at q; cases q⟩
    · subst e; exact ⟨o2, e2, fun v q => by rw [d2] at q; cases q⟩
    · subst e; exact ⟨o3, e3, fun v q => by rw [d3] at q; cases q⟩
  keep := fun i h h2 st k => by
    obtain ⟨hz, hTI, ⟨x, y, u, hTO⟩, g1, g2, g3⟩ := st
    exact ⟨k z (by simp) _ hz, k TI (by simp) _ hTI, ⟨x, y, u, k TO (by simp) _ hTO⟩, g1.at fun o q => k i1 (by simp) o q, g2.at fun o q => k i2 (by simp) o q, g3.at fun o q => k i3 (by simp) o q⟩
  item := by
    intro X q1 q2 q3 hc i pins s σ H E I hf st hg; subst q1 q2 q3
    obtain ⟨hz, hTI, ⟨x0, y0, u0, hTO⟩, g1, g2, g3⟩ := st
    obtain ⟨xs, ys, us, x, y, u, hqa, hqb, hqc, hx, hy, hu⟩ := hg
    obtain ⟨its1, vs1, p1, _⟩ := I.list hqa
    obtain ⟨its2, vs2, p2, _⟩ := I.list hqb
    obtain ⟨its3, vs3, p3, _⟩ := I.list hqc
    obtain ⟨w1, hw1, r1⟩ := vs1.get hx
    obtain ⟨w2, hw2, r2⟩ := vs2.get hy
    obtain ⟨w3, hw3, r3⟩ := vs3.get hu
    have at1 : its1.toArray[i]? = some w1 := by simpa using hw1
    have at2 : its2.toArray[i]? = some w2 := by simpa using hw2
    have at3 : its3.toArray[i]? = some w3 := by simpa using hw3
    have l1 : i < its1.toArray.size := (Array.getElem?_eq_some_iff.mp at1).1
    have l2 : i < its2.toArray.size := (Array.getElem?_eq_some_iff.mp at2).1
    have l3 : i < its3.toArray.size := (Array.getElem?_eq_some_iff.mp at3).1
    have hh := I.ok.hd hc
    have G := GoesN.zip3 (elts := elts) (x1 := kk) (pos := tpos) D (Draws.list (prog := X.prog) (w := X.w) (A := X.A.in1) hh i1 a n1 its1.toArray) (Draws.list (prog := X.prog) (w := X.w) (A := X.A.in1) hh i2 b n2 its2.toArray) (Draws.list (prog := X.prog) (w := X.w) (A := X.A.in1) hh i3 c n3 its3.toArray)
    refine G.goes i s _ _ (by omega) ⟨hz, hTI, ⟨x0, y0, u0, hTO⟩, ⟨g1, p1.isList⟩, ⟨g2, p2.isList⟩, ⟨g3, p3.isList⟩⟩ fun v h2 tk hY st2 hk _ => ?_
    obtain ⟨T, t1, t2, t3, rfl, hn, e1, e2, e3, hT⟩ := hY
    cases Option.some.inj (e1.symm.trans at1)
    cases Option.some.inj (e2.symm.trans at2)
    cases Option.some.inj (e3.symm.trans at3)
    have new : ObjOk X.prog X.w (upd H T (.tup [x, y, u])) h2 T (.tup [x, y, u]) := ⟨by show 3 ≤ sizeLine; decide, [w1, w2, w3], .cons r1 (.cons r2 (.cons r3 .nil)), hT⟩
    have I1 : Inv X pins σ (upd H T (.tup [x, y, u])) { s with heap := h2, toks := tk } := I.turnedNew (ch := [z, TI, TO, i1, i2, i3]) (fun m ob hm q => hk m ob (fun e => hm (by simp only [List.mem_cons, List.not_mem_nil, or_false] at e ⊢; rcases e with e | e | e | e | e <;> simp [e])) q) hf hn new
    refine ⟨.ref T, _, I1, rfl, ⟨T, x, y, u, rfl, I.hok.fresh hn, rfl, fun l hl => by rw [I.list_inj hl hqa]; exact hx, fun l hl => by rw [I.list_inj hl hqb]; exact hy, fun l hl => by rw [I.list_inj hl hqc]; exact hu⟩, ⟨st2.1, st2.2.1, st2.2.2.1, st2.2.2.2.1.1, st2.2.2.2.2.1.1, st2.2.2.2.2.2.1⟩, fun m hm => ?_⟩
    have hm0 := (hf m hm).1
    have live : ∃ o, s.heap.get? m = some o := by
      obtain ⟨o1, f1, _⟩ := g1
      obtain ⟨o2, f2, _⟩ := g2
      obtain ⟨o3, f3, _⟩ := g3
      simp only [List.mem_cons, List.not_mem_nil, or_false] at hm
      rcases hm with e | e | e | e | e | e
      · subst e; exact ⟨_, hz⟩
      · subst e; exact ⟨_, hTI⟩
      · subst e; exact ⟨_, hTO⟩
      · subst e; exact ⟨_, f1⟩
      · subst e; exact ⟨_, f2⟩
      · subst e; exact ⟨_, f3⟩
    obtain ⟨o, ho⟩ := live
    rw [upd_ne (Nat.ne_of_lt (Nat.lt_of_lt_of_le (Heap.lt_size ho) hn))]; exact hm0
  done := by
    intro X q1 q2 q3 hc i pins s σ H E I hf st hg; subst q1 q2 q3
    obtain ⟨hz, hTI, ⟨x0, y0, u0, hTO⟩, g1, g2, g3⟩ := st
    obtain ⟨xs, ys, us, hqa, hqb, hqc, hx, hy, hu⟩ := hg
    obtain ⟨its1, vs1, p1, _⟩ := I.list hqa
    obtain ⟨its2, vs2, p2, _⟩ := I.list hqb
    obtain ⟨its3, vs3, p3, _⟩ := I.list hqc
    have m1 := vs1.length
    have m2 := vs2.length
    have m3 := vs3.length
    have hh := I.ok.hd hc
    have G := GoesN.zip3 (elts := elts) (x1 := kk) (pos := tpos) D (drawsEndL (prog := X.prog) (w := X.w) (A := X.A.in1) hh i1 a its1.toArray i (by simp; omega)) (drawsEndL (prog := X.prog) (w := X.w) (A := X.A.in1) hh i2 b its2.toArray i (by simp; omega)) (drawsEndL (prog := X.prog) (w := X.w) (A := X.A.in1) hh i3 c its3.toArray i (by simp; omega))
    rw [Nat.min_self, Nat.min_self] at G
    exact G.stops s _ _ ⟨hz, hTI, ⟨x0, y0, u0, hTO⟩, ⟨rfl, g1, p1.isList⟩, ⟨rfl, g2, p2.isList⟩, ⟨rfl, g3, p3.isList⟩⟩ fun h2 tk hk _ => inv_ch (ch := [z, TI, TO, i1, i2, i3]) I (fun m o hm q => hk m o (fun e => hm (by simp only [List.mem_cons, List.not_mem_nil, or_false] at e ⊢; rcases e with e | e | e | e | e <;> simp [e])) q) hf
  self := fun _ _ _ _ _ st fin => wpAny_pyIter_zip st.1 fin
def iZip3 (K : PySem.W.Frag) (ta : TA) : TI := fun σ H R => ta σ H fun vs H1 => ∃ a b c xs ys zs, vs = [.ref a, .ref b, .ref c] ∧ SqL K H1 a xs ∧ SqL K H1 b ys ∧ SqL K H1 c zs ∧ R (It3 K a b c) H1
theorem pi_zip3 {X : Cx} {e e2 e3 : Expr} {ta : TA} {p pos tpos : Pos} {elts : List Expr} {kk : Nat} (hg : Gl X "zip") (hm : X.mg "zip" = none) (ha : PA X [e, e2, e3] ta)
    (hs : starEach [e, e2, e3] X.env = (false, eval e X.env) :: starEach [e2, e3] X.env := by rfl) (hpl : (backTo pos (starEach [e2, e3] X.env)).any (·.1) = false := by rfl) :
    PI X (.Tuple elts kk tpos) (.Call (.Name "zip" p) [e, e2, e3] [] pos) (iZip3 X.K ta) := by
  refine ⟨fun pins s σ H R I hi => ?_⟩
  refine Call_ (ld_blt I hg hm PyProof.Rows.boot_zip (PyProof.Rows.callWith_type1 (thn (ha.run pos pins s σ H _ I hi) fun us s1 ⟨vs, H1, I1, r1, q1⟩ => ?_) hs hpl))
  obtain ⟨a, b, c, xs, ys, zs, ex, qa, qb, qc, q⟩ := q1
  subst ex
  cases r1 with
  | cons ra rr =>
    cases rr with
    | cons rb rr =>
      cases rr with
      | cons rc rr =>
        cases rr; cases ra; cases rb; cases rc
        obtain ⟨its1, _, p1, _⟩ := I1.list qa
        obtain ⟨its2, _, p2, _⟩ := I1.list qb
        obtain ⟨its3, _, p3, _⟩ := I1.list qc
        refine zip_begins3 (begins_list a its1.toArray) (begins_list b its2.toArray) (begins_list c its3.toArray) p1.isList p2.isList p3.isList fun h2 hz hTI hTO f1 f2 f3 hsz hk => wpAny_pyIter_zip hz ?_
        have below : ∀ {l : Addr} {its : List Value} {n : Nat}, s1.heap.get? l = some { cls := .type "list", data := .seq its.toArray n } → ∀ m ∈ [l], m < s1.heap.objs.size := fun h m hm => by rw [List.mem_singleton.mp hm]; exact Heap.lt_size h
        refine ⟨s1.heap.objs.size + 5, [s1.heap.objs.size + 5, s1.heap.objs.size + 3, s1.heap.objs.size + 4, s1.heap.objs.size, s1.heap.objs.size + 1, s1.heap.objs.size + 2], _, _, H1, rfl, I1.kept (t' := s1.toks) hk, turn_z3 (zip_sep3 (N := s1.heap.objs.size) (fp1 := [a]) (fp2 := [b]) (fp3 := [c]) ?_ ?_ ?_) ?_ ?_ ?_, ⟨hz, hTI, ⟨_, _, _, hTO⟩, ⟨_, f1, rfl, rfl⟩, ⟨_, f2, rfl, rfl⟩, ⟨_, f3, rfl, rfl⟩⟩, fun m hm => ?_, q⟩
        · exact fun m hm => by rw [List.mem_singleton.mp hm]; exact p1.lt
        · exact fun m hm => by rw [List.mem_singleton.mp hm]; exact p2.lt
        · exact fun m hm => by rw [List.mem_singleton.mp hm]; exact p3.lt
        · exact Nat.ne_of_lt p1.lt
        · exact Nat.ne_of_lt (Nat.lt_of_lt_of_le p2.lt (Nat.le_add_right _ _))
        · exact Nat.ne_of_lt (Nat.lt_of_lt_of_le p3.lt (Nat.le_add_right _ _))
        · have hge : s1.heap.objs.size ≤ m := by
            simp only [List.mem_cons, List.not_mem_nil, or_false] at hm
            rcases hm with e | e | e | e | e | e <;> (rw [e]; first | exact Nat.le_refl _ | exact Nat.le_add_right _ _)
          exact I1.fpOk hge (I1.hok.fresh hge)
theorem ki_zip3 {X : Cx} {K : PySem.W.Frag} {e e2 e3 : Expr} {ta : TA} {p pos tpos : Pos} {elts : List Expr} {kk : Nat} (hg : Gl X "zip") (hm : X.mg "zip" = none) (ha : PA X [e, e2, e3] ta)
    (hs : starEach [e, e2, e3] X.env = (false, eval e X.env) :: starEach [e2, e3] X.env := by rfl) (hpl : (backTo pos (starEach [e2, e3] X.env)).any (·.1) = false := by rfl) (h : X.K = K := by rfl) :
    PI X (.Tuple elts kk tpos) (.Call (.Name "zip" p) [e, e2, e3] [] pos) (iZip3 K ta) := h ▸ pi_zip3 hg hm ha hs hpl
def Y3 (f g k : Nat → Option V) : Nat → Hp → V → Hp → Prop := fun i H v H2 => ∃ T x y z, v = .ref T ∧ H T = none ∧ H2 = upd H T (.tup [x, y, z]) ∧ f i = some x ∧ g i = some y ∧ k i = some z
theorem walk_z3 {K : PySem.W.Frag} {a b c : Addr} {xs ys zs : List V} (h1 : ys.length = xs.length) (h2 : zs.length = xs.length) : Walk (It3 K a b c) xs.length (fun H => SqL K H a xs ∧ SqL K H b ys ∧ SqL K H c zs) (Y3 (fun i => xs[i]?) (fun i => ys[i]?) (fun i => zs[i]?)) := by
  refine ⟨fun i _ hi hs => ⟨xs, ys, zs, xs[i], ys[i]'(by omega), zs[i]'(by omega), hs.1, hs.2.1, hs.2.2, by simp [hi], by simp [show i < ys.length by omega], by simp [show i < zs.length by omega]⟩, fun _ hs => ⟨xs, ys, zs, hs.1, hs.2.1, hs.2.2, by omega, by omega, by omega⟩, fun i H v H2 _ hs y => ?_⟩
  obtain ⟨T, x, y, z, e1, e2, e3, e4, e5, e6⟩ := y
  exact ⟨T, x, y, z, e1, e2, e3, e4 xs hs.1, e5 ys hs.2.1, e6 zs hs.2.2⟩
end Pot

namespace Pot
open PySem PySem.Spec PyProof.Rows L2
open PySem.Calls
open PySem.W (sortingHeap copyHeap sortLe alike alikeAll keyToks keyToksAll dataLt dataKind KatLex SortsAt sortVals dataType EachIs)
/-! ### sorted of rows that are told apart by parts that can be compared -/
/-- up to the first part in which they differ, that one too, two rows are alike -/
def okCmp : List PyData → List PyData → Bool
  | x :: xs, y :: ys => alike x y && (!PyData.eqv x y || okCmp xs ys)
  | [], [] => true
  | _, _ => false
section
variable {prog : Program} {w : World} {A : Around} {s : Shared}
theorem kat_ok {b fin : Bool} {Q : Bool → Shared → Prop} : ∀ (xs ys : List PyData) (i : Nat) (vs ws : List Value) (as bs : List Addr), ReadsAll s.heap vs xs as → ReadsAll s.heap ws ys bs → okCmp xs ys = true → A.units + min (PyData.depthAll xs) (PyData.depthAll ys) < cLine → (b = true → i = 0 → ∀ x r t, xs = x :: r → x ≠ .tuple t) → fin = decide (xs.length < ys.length) →
    Q (PyProof.Rows.lexLt itemOrd (keyToksAll xs) (keyToksAll ys)) s → KatLex prog w A b fin Q (vs.zip ws) i s := by
  intro xs
  induction xs with
  | nil =>
    intro ys i vs ws as bs ra rb ok hu hb hf hq
    have := PySem.W.katLex_alike (prog := prog) (w := w) (A := A) (s := s) (b := b) (fin := fin) (Q := Q) [] ys i vs ws as bs ra rb
    cases ys with
    | nil => exact this rfl hu hb hf hq
    | cons y ys => cases ok
  | cons x xs ih =>
    intro ys i vs ws as bs ra rb ok hu hb hf hq
    cases ys with
    | nil => cases ok
    | cons y ys =>
      obtain ⟨al, nx⟩ := Bool.and_eq_true_iff.mp ok
      have hf2 : fin = decide (xs.length < ys.length) := by rw [hf]; simp only [List.length_cons, Nat.add_lt_add_iff_right]
      cases ra with
      | cons r rs =>
        cases rb with
        | cons r2 rs2 =>
          rw [List.zip_cons_cons]
          refine PySem.W.kat_cons (PySem.W.eqAt_alike x y A s _ _ _ _ r r2 al (SeqAt.room_head hu) prog w _ _ ?_)
          cases ex : PyData.eqv x y with
          | true =>
            rw [PySem.W.dataLt_all_yes al ex] at hq
            rw [ex] at nx
            exact PySem.W.kat_yes (ih ys (i + 1) _ _ _ _ rs rs2 nx (SeqAt.room_tail hu) (fun _ h0 => absurd h0 (Nat.succ_ne_zero i)) hf2 hq)
          | false =>
            rw [PySem.W.dataLt_all_no al ex] at hq
            refine PySem.W.kat_no (PySem.W.oneLt_alike (fun hbi t => ?_) r r2 al (PySem.W.ne_none_of al ex) (SeqAt.room_head hu) hq)
            obtain ⟨b1, b2⟩ := Bool.and_eq_true_iff.mp hbi
            exact hb b1 (by simpa using b2) x xs t rfl
theorem key_of {h : Heap} {ds : List PyData} {v : Value} {d : PyData} {as : List Addr} (hd : d ∈ ds) (r : Reads h v d as) : (dataKind h ds).keyOf v = some (keyToks d) := by
  have ex : ∃ e, e ∈ ds ∧ ∃ bs, Reads h v e bs := ⟨d, hd, as, r⟩
  have eq1 : (dataKind h ds).keyOf v = some (keyToks ex.choose) := dif_pos ex
  obtain ⟨_, bs, r2⟩ := ex.choose_spec
  rw [eq1, (Reads.unique r2 _ _ r).1]
/-- rows that can be sorted: tuples with a first part, the first parts alike, each two comparable -/
structure RowsCmp (ds : List PyData) : Prop where
  form : ∀ d ∈ ds, ∃ x r, d = .tuple (x :: r)
  first : ∀ x r x2 r2, PyData.tuple (x :: r) ∈ ds → PyData.tuple (x2 :: r2) ∈ ds → alike x x2 = true
  cmp : ∀ xs ys, PyData.tuple xs ∈ ds → PyData.tuple ys ∈ ds → okCmp xs ys = true
theorem sorts_rows {vs : List Value} {ds : List PyData} (e : EachIs (fun v d => ∃ as, Reads s.heap v d as) vs ds) (W : RowsCmp ds) (hu : ∀ d, d ∈ ds → A.units + d.depth < cLine) : SortsAt prog w A s (dataKind s.heap ds) vs := by
  refine ⟨fun v hv => ?_, ?_⟩
  · obtain ⟨d, hd, as, r⟩ := e.left v hv
    exact ⟨_, key_of hd r⟩
  · cases hds : ds with
    | nil =>
      rw [hds] at e
      cases e
      exact ⟨general', fun E x y a b Q ha _ _ => (by obtain ⟨d, _, hd, _⟩ := PySem.W.dataKind_inv ha; exact absurd hd (by simp)), fun h2 => absurd h2 (by simp)⟩
    | cons d0 ds0 =>
      rw [← hds]
      have m0 : d0 ∈ ds := by rw [hds]; exact List.mem_cons_self
      obtain ⟨x0, r0, e0⟩ := W.form d0 m0
      have m0 : PyData.tuple (x0 :: r0) ∈ ds := by rw [← e0]; exact m0
      refine ⟨tuples' (dataType x0 != Value.type "tuple"), ?_, fun h2 E Q hq => ?_⟩
      · intro E x y a b Q ha hb hq
        obtain ⟨d, as, hd, ra, rfl⟩ := PySem.W.dataKind_inv ha
        obtain ⟨d2, as2, hd2, rb, rfl⟩ := PySem.W.dataKind_inv hb
        obtain ⟨x1, r1, rfl⟩ := W.form d hd
        obtain ⟨x2, r2, rfl⟩ := W.form d2 hd2
        have room : A.units + min (PyData.tuple (x1 :: r1)).depth (PyData.tuple (x2 :: r2)).depth < cLine := Nat.lt_of_le_of_lt (Nat.add_le_add_left (Nat.min_le_left _ _) _) (hu _ hd)
        have hq2 : Q (dataLt (.tuple (x1 :: r1)) (.tuple (x2 :: r2))) s := hq
        rw [PySem.W.dataLt_tuple] at hq2
        cases ra with
        | @tuple l o us n _ _ h1 h2 h3 h4 =>
          cases rb with
          | @tuple l2 o2 us2 n2 _ _ k1 k2 k3 k4 =>
            have z1 : us.size = (x1 :: r1).length := by simpa using SeqAt.ReadsAll.length _ _ _ h4
            have z2 : us2.size = (x2 :: r2).length := by simpa using SeqAt.ReadsAll.length _ _ _ k4
            refine PySem.W.kat_lt h1 h3 k1 k3 (kat_ok (prog := prog) (w := w) (A := A) (s := s) (x1 :: r1) (x2 :: r2) 0 _ _ _ _ h4 k4 (W.cmp _ _ hd hd2) (by have := SeqAt.room_in room; omega) (fun hb1 _ xx rr t ex => ?_) (by rw [z1, z2]) hq2)
            obtain ⟨rfl, rfl⟩ := List.cons.inj ex
            rw [← PySem.W.dataType_alike (W.first _ _ _ _ hd m0)] at hb1
            exact PySem.W.dataType_tuple hb1 t
      · obtain ⟨fs, t1, t2, t3⟩ := PySem.W.each_katTups e W.form
        refine PySem.W.kat_kind (T := dataType x0) t1 (by omega) (fun f hf => ?_) (beq_self_eq_true _) hq
        obtain ⟨xx, rr, as, m1, m2⟩ := t3 f hf
        rw [← PySem.W.dataType_alike (W.first _ _ _ _ m1 m0)]
        exact PySem.W.looks_reads m2
end
theorem perm_lift {α β : Type} (f : α → β) {out l : List β} (h : out.Perm l) : ∀ L : List α, L.map f = l → ∃ L2 : List α, L2.Perm L ∧ L2.map f = out := by
  induction h with
  | nil => intro L e; exact ⟨L, .refl _, e⟩
  | cons x _ ih =>
    intro L e
    cases L with
    | nil => cases e
    | cons y L =>
      obtain ⟨e1, e2⟩ := List.cons.inj e
      obtain ⟨L2, p2, m2⟩ := ih L e2
      exact ⟨y :: L2, p2.cons y, by rw [List.map_cons, m2, e1]⟩
  | swap x y l =>
    intro L e
    match L, e with
    | a :: b :: L, e =>
      obtain ⟨e1, e2⟩ := List.cons.inj e
      obtain ⟨e2, e3⟩ := List.cons.inj e2
      exact ⟨b :: a :: L, .swap a b L, by rw [List.map_cons, List.map_cons, e1, e2, e3]⟩
  | trans _ _ ih1 ih2 =>
    intro L e
    obtain ⟨L2, p2, m2⟩ := ih2 L e
    obtain ⟨L3, p3, m3⟩ := ih1 L2 m2
    exact ⟨L3, p3.trans p2, m3⟩
section
variable {X : Cx} {K : PySem.W.Frag}
theorem each_reads {pins : List (Addr × Obj)} {σ : L2.St} {H : Hp} {s : Shared} (I : Inv X pins σ H s) : ∀ {xs : List V} {its : List Value} {ds : List PyData}, Vals xs its → DpAll X.K H xs ds → ∃ L : List (Value × V × PyData), L.map (·.1) = its ∧ L.map (·.2.1) = xs ∧ L.map (·.2.2) = ds ∧ ∀ t ∈ L, RelV t.2.1 t.1 ∧ Dp X.K H t.2.1 t.2.2
  | _, _, _, .nil, .nil => ⟨[], rfl, rfl, rfl, fun _ h => (List.not_mem_nil h).elim⟩
  | _, _, _, .cons (a := x) (b := u) r rs, .cons (d := d) p ps => by
    obtain ⟨L, h1, h2, h3, h4⟩ := each_reads I rs ps
    refine ⟨(u, x, d) :: L, by rw [List.map_cons, h1], by rw [List.map_cons, h2], by rw [List.map_cons, h3], fun t ht => ?_⟩
    rcases List.mem_cons.mp ht with e | e
    · rw [e]; exact ⟨r, p⟩
    · exact h4 t e
/-- sorted of a list of rows: a new list of the same ones -/
def rSortedR (K : PySem.W.Frag) : List V → Hp → VK → Prop := fun vs H Q => ∃ (a : Addr) (xs : List V) (ds : List PyData), vs = [V.ref a] ∧ SqL K H a xs ∧ DpAll K H xs ds ∧ RowsCmp ds ∧ (∀ d ∈ ds, d.depth ≤ 60) ∧
  ∀ (zs : List V) (es : List PyData) (p : Addr), DpAll K H zs es → es.Perm ds → H p = none → Q (.ref p) (upd H p (.lst zs))
theorem cr_sortedR (hu : X.A.units + 70 < cLine) : CallR X (.builtin "sorted") (rSortedR X.K) := by
  intro pins s σ H vs0 us0 Q I r h
  obtain ⟨a, xs, ds, rfl, hs, da, W, dep, q⟩ := h
  obtain ⟨its, rv, hl, hz⟩ := I.list hs
  rw [Vals.ref1 r]
  obtain ⟨L, e1, e2, e3, all⟩ := each_reads I rv da
  have er : EachIs (fun v d => ∃ as, Reads s.heap v d as) its ds := by
    rw [← e1, ← e3]
    clear e1 e2 e3
    induction L with
    | nil => exact .nil
    | cons t L ih =>
      have ht := all t List.mem_cons_self
      exact .cons (Dp.reads I _ _ _ ht.2 ht.1) (ih fun x hx => all x (List.mem_cons_of_mem _ hx))
  have ll : its.length = xs.length := by rw [← e1, ← e2, List.length_map, List.length_map]
  have ln : its.length ≤ sizeLine := by rw [ll]; exact hz
  have er' : EachIs (fun v d => ∃ as, Reads (sortingHeap (copyHeap s.heap its) (s.heap.objs.size + 1) its) v d as) its ds := er.mono fun _ _ ⟨as, r⟩ => ⟨as, PyProof.Rows.Reads.keeps (fun _ _ => PySem.W.sorting_copy_old) r⟩
  have S := sorts_rows (prog := X.prog) (w := X.w) (A := X.A.in1.in1) (s := { s with heap := sortingHeap (copyHeap s.heap its) (s.heap.objs.size + 1) its }) er' W (fun d hd => by have := dep d hd; simp only [Around.in1]; omega)
  refine PySem.W.sorted_vals hl.isList S ln ?_
  generalize eo : sortVals _ false its its = out
  have po : out.Perm its := by
    rw [← eo]
    unfold sortVals
    have := (List.mergeSort_perm (its.zip its) (sortLe (dataKind (sortingHeap (copyHeap s.heap its) (s.heap.objs.size + 1) its) ds).toKeyOrd false fun p : Keyed => PySem.W.keyD (dataKind (sortingHeap (copyHeap s.heap its) (s.heap.objs.size + 1) its) ds) p.1)).map Prod.snd
    rw [List.map_snd_zip (Nat.le_refl _)] at this
    exact this
  obtain ⟨L2, p2, m2⟩ := perm_lift (·.1) po L e1
  have rv2 : Vals (L2.map (·.2.1)) out := by
    rw [← m2]
    clear m2
    have hh : ∀ t ∈ L2, RelV t.2.1 t.1 := fun t ht => (all t (p2.mem_iff.mp ht)).1
    clear p2
    induction L2 with
    | nil => exact .nil
    | cons t L2 ih => exact .cons (hh t List.mem_cons_self) (ih fun x hx => hh x (List.mem_cons_of_mem _ hx))
  have dp2 : DpAll X.K H (L2.map (·.2.1)) (L2.map (·.2.2)) := by
    have hh : ∀ t ∈ L2, Dp X.K H t.2.1 t.2.2 := fun t ht => (all t (p2.mem_iff.mp ht)).2
    clear p2 m2 rv2
    induction L2 with
    | nil => exact .nil
    | cons t L2 ih => exact .cons (hh t List.mem_cons_self) (ih fun x hx => hh x (List.mem_cons_of_mem _ hx))
  have pd : (L2.map (·.2.2)).Perm ds := by rw [← e3]; exact p2.map _
  obtain ⟨ep, hat⟩ := PyProof.Rows.sortedAll_at s.heap its out.toArray
  have fr : H (s.heap.objs.size + 1) = none := I.hok.fresh (Nat.le_succ _)
  exact ⟨.ref _, upd H (s.heap.objs.size + 1) (.lst (L2.map (·.2.1))), I.laid (t' := s.toks) (fun _ _ => PyProof.Rows.sortedAll_old) (Nat.le_succ _) ⟨by rw [List.length_map, p2.length_eq, ← List.length_map (f := fun x : Value × V × PyData => x.1), e1]; exact ln, out, ep, rv2, hat⟩, rfl, q _ _ _ dp2 pd fr⟩
theorem kc_sortedR (hu : X.A.units + 70 < cLine) (h : X.K = K := by rfl) : CallR X (.builtin "sorted") (rSortedR K) := h ▸ cr_sortedR hu
end
end Pot

namespace Pot
open PySem PySem.Spec PyProof.Rows L2
/-! ### a box of three numbers: the second below 2 ^ 62, the last at most n -/
def Bp (H : Hp) (b : Addr) (n : Nat) : Prop := ∃ x y z : Int, H b = some (.lst [.int x, .int y, .int z]) ∧ 0 ≤ z ∧ z ≤ n ∧ 0 ≤ y ∧ y < 2 ^ 62
section
variable {H H' : Hp} {b p : Addr} {n m : Nat} {o : HO}
theorem Bp.bx (B : Bp H b n) : Bx H b := by
  obtain ⟨x, y, z, h, _⟩ := B
  exact ⟨x, y, z, h⟩
theorem Bp.same (B : Bp H b n) (s : Same H H') : Bp H' b n := by
  obtain ⟨x, y, z, h, h2⟩ := B
  exact ⟨x, y, z, s _ _ h, h2⟩
theorem Bp.put (B : Bp H b n) (h : H p = none) : Bp (upd H p o) b n := B.same (same_upd h)
theorem Bp.wr (B : Bp H b n) (h : p ≠ b) : Bp (upd H p o) b n := by
  obtain ⟨x, y, z, e, h2⟩ := B
  exact ⟨x, y, z, by rw [upd_ne h.symm]; exact e, h2⟩
theorem Bp.mono (B : Bp H b n) (h : n ≤ m) : Bp H b m := by
  obtain ⟨x, y, z, e, h1, h2, h3⟩ := B
  exact ⟨x, y, z, e, h1, by omega, h3⟩
theorem Bp.ne (B : Bp H b n) (h : H p = none) : p ≠ b := B.bx.ne h
theorem Live.pw (B : Bp H b n) : Live [b] H := Live.one B.bx
end
end Pot

namespace Pot
open PySem PySem.Spec PyProof.Rows L2
/-! ### the names of cluster C: unlike each other -/
def Nm (z : Str) : Prop := Wd 8 z ∧ 0 < z.length
def ltN (x : Int) : Str := ⟨#[97 + x.toNat]⟩
theorem str_app (a b : Str) : (a ++ b).cps.toList = a.cps.toList ++ b.cps.toList := by
  show (a.cps ++ b.cps).toList = _
  simp
theorem str_eq {a b : Str} (h : a = b) : a.cps.toList = b.cps.toList := by rw [h]
theorem ltN_list (x : Int) : (ltN x).cps.toList = [97 + x.toNat] := rfl
theorem ltN_len (x : Int) : (ltN x).length = 1 := rfl
def vlN (fi stp : Int) (i : Nat) : Int := (fi + stp * (0 + (i : Int))) % 676
def bsN (hd tl : Str) (fi stp : Int) (i : Nat) : Str := hd ++ ltN (vlN fi stp i / 26) ++ ltN (vlN fi stp i % 26) ++ tl
def nmN (hd tl : Str) (fi stp lo : Int) (i : Nat) : Str := if lo = 1 ∧ i % 2 = 1 then bsN hd tl fi stp (i - 1) ++ ltN ((fi + (0 + (i : Int))) % 26) else bsN hd tl fi stp i
def StpN (s : Int) : Prop := s = 1 ∨ s = 3 ∨ s = 5 ∨ s = 7 ∨ s = 25 ∨ s = 675
theorem vlN_pos (fi stp : Int) (i : Nat) : 0 ≤ vlN fi stp i ∧ vlN fi stp i < 676 := ⟨Int.emod_nonneg _ (by decide), Int.emod_lt_of_pos _ (by decide)⟩
theorem bsN_len (hd tl : Str) (fi stp : Int) (i : Nat) : (bsN hd tl fi stp i).length = hd.length + 2 + tl.length := by
  unfold bsN
  rw [strLen_append, strLen_append, strLen_append, ltN_len, ltN_len]
theorem bsN_wd {hd tl : Str} (h1 : Wd 3 hd) (h2 : Wd 2 tl) (fi stp : Int) (i : Nat) : Wd 7 (bsN hd tl fi stp i) ∧ 0 < (bsN hd tl fi stp i).length := by
  have := vlN_pos fi stp i
  refine ⟨wd_add (wd_add (wd_add h1 (wd_letter (by omega) (by omega))) (wd_letter (by omega) (by omega))) h2, ?_⟩
  rw [bsN_len]; omega
theorem nmN_nm {hd tl : Str} (h1 : Wd 3 hd) (h2 : Wd 2 tl) (fi stp lo : Int) (i : Nat) : Nm (nmN hd tl fi stp lo i) := by
  unfold nmN
  have l0 : 0 ≤ (fi + (0 + (i : Int))) % 26 := Int.emod_nonneg _ (by decide)
  have l1 : (fi + (0 + (i : Int))) % 26 < 26 := Int.emod_lt_of_pos _ (by decide)
  by_cases h : lo = 1 ∧ i % 2 = 1
  · rw [if_pos h]
    have b := bsN_wd h1 h2 fi stp (i - 1)
    exact ⟨wd_add b.1 (wd_letter l0 l1), by rw [strLen_append]; have := b.2; omega⟩
  · rw [if_neg h]
    have b := bsN_wd h1 h2 fi stp i
    exact ⟨b.1.mono (by decide), b.2⟩
theorem stp_inj {fi stp : Int} (s : StpN stp) {i j : Nat} (hi : i < 12) (hj : j < 12) (h : vlN fi stp i = vlN fi stp j) : i = j := by
  unfold vlN at h
  rcases s with rfl | rfl | rfl | rfl | rfl | rfl <;> omega
theorem stp_inj26 {fi stp : Int} (s : StpN stp) {i j : Nat} (hi : i < 12) (hj : j < 12) (h : (fi + stp * (0 + (i : Int))) % 26 = (fi + stp * (0 + (j : Int))) % 26) : i = j := by
  rcases s with rfl | rfl | rfl | rfl | rfl | rfl <;> omega
theorem bsN_inj {hd tl : Str} {fi stp : Int} (s : StpN stp) {i j : Nat} (hi : i < 12) (hj : j < 12) (h : bsN hd tl fi stp i = bsN hd tl fi stp j) : i = j := by
  have h2 := str_eq h
  unfold bsN at h2
  simp only [str_app, ltN_list, List.append_assoc, List.append_cancel_left_eq, List.cons_append, List.nil_append, List.cons.injEq] at h2
  have a := vlN_pos fi stp i
  have b := vlN_pos fi stp j
  exact stp_inj (fi := fi) s hi hj (by omega)
theorem nmN_inj {hd tl : Str} {fi stp lo : Int} (s : StpN stp) {i j : Nat} (hi : i < 12) (hj : j < 12) (h : nmN hd tl fi stp lo i = nmN hd tl fi stp lo j) : i = j := by
  unfold nmN at h
  by_cases c1 : lo = 1 ∧ i % 2 = 1 <;> by_cases c2 : lo = 1 ∧ j % 2 = 1
  · rw [if_pos c1, if_pos c2] at h
    have h2 := str_eq h
    rw [str_app, str_app] at h2
    have l : (bsN hd tl fi stp (i - 1)).cps.toList.length = (bsN hd tl fi stp (j - 1)).cps.toList.length := by
      have e1 := bsN_len hd tl fi stp (i - 1)
      have e2 := bsN_len hd tl fi stp (j - 1)
      rw [Array.length_toList, Array.length_toList]
      exact e1.trans e2.symm
    have h3 := (List.append_inj h2 l).1
    have h4 : bsN hd tl fi stp (i - 1) = bsN hd tl fi stp (j - 1) := by
      cases e1 : bsN hd tl fi stp (i - 1) with
      | mk x => cases e2 : bsN hd tl fi stp (j - 1) with
        | mk y =>
          rw [e1, e2] at h3
          exact congrArg Str.mk (Array.toList_inj.mp h3)
    have := bsN_inj s (i := i - 1) (j := j - 1) (by omega) (by omega) h4
    omega
  · rw [if_pos c1, if_neg c2] at h
    have := congrArg Str.length h
    rw [strLen_append, bsN_len, bsN_len, ltN_len] at this
    omega
  · rw [if_neg c1, if_pos c2] at h
    have := congrArg Str.length h
    rw [strLen_append, bsN_len, bsN_len, ltN_len] at this
    omega
  · rw [if_neg c1, if_neg c2] at h
    exact bsN_inj s hi hj h
theorem nodup_map_range {f : Nat → Str} {m : Nat} (h : ∀ i j, i < m → j < m → f i = f j → i = j) : ((List.range m).map f).Nodup := by
  rw [List.Nodup, List.pairwise_map]
  refine List.Pairwise.imp_of_mem (fun {a b} ha hb hab e => ?_) (List.nodup_range (n := m))
  exact hab (h a b (List.mem_range.mp ha) (List.mem_range.mp hb) e)
theorem nmN_nodup {hd tl : Str} {fi stp lo : Int} (s : StpN stp) {m : Nat} (hm : m ≤ 12) : ((List.range m).map (nmN hd tl fi stp lo)).Nodup :=
  nodup_map_range fun i j hi hj h => nmN_inj s (by omega) (by omega) h
theorem letN_nodup {fi stp : Int} (s : StpN stp) {m : Nat} (hm : m ≤ 12) : ((List.range m).map fun i : Nat => ltN ((fi + stp * (0 + (i : Int))) % 26)).Nodup :=
  nodup_map_range fun i j hi hj h => by
    have h2 := str_eq h
    rw [ltN_list, ltN_list] at h2
    have h3 := (List.cons.inj h2).1
    have a0 : 0 ≤ (fi + stp * (0 + (i : Int))) % 26 := Int.emod_nonneg _ (by decide)
    have b0 : 0 ≤ (fi + stp * (0 + (j : Int))) % 26 := Int.emod_nonneg _ (by decide)
    exact stp_inj26 (fi := fi) s (by omega) (by omega) (by omega)
def wordsN : List Str := ["never", "at", "undo", "slots", "done", "wash", "pot", "kind", "fill", "gather", "team", "colour"]
theorem words_eq : Txt.split (Str.ofString "never at undo slots done wash pot kind fill gather team colour") (Str.ofString " ") = wordsN := by decide +kernel
theorem words_nm : ∀ z ∈ wordsN, Nm z := by
  unfold Nm Wd wordsN
  decide +kernel
theorem words_nodup : ∀ j : Nat, j < 12 → ((wordsN ++ wordsN).drop j |>.take 12).Nodup := by
  unfold wordsN
  decide +kernel
theorem words_cut {j m : Nat} (hj : j < 12) (hm : m ≤ 12) : ((wordsN ++ wordsN).drop j |>.take m).Nodup ∧ ((wordsN ++ wordsN).drop j |>.take m).length = m ∧ ∀ z ∈ ((wordsN ++ wordsN).drop j |>.take m), Nm z := by
  refine ⟨?_, ?_, fun z hz => ?_⟩
  · have := words_nodup j hj
    have e : ((wordsN ++ wordsN).drop j |>.take m) = (((wordsN ++ wordsN).drop j |>.take 12).take m) := by rw [List.take_take, Nat.min_eq_left hm]
    rw [e]
    exact this.sublist (List.take_sublist _ _)
  · rw [List.length_take, List.length_drop, List.length_append]
    show min m (12 + 12 - j) = m
    omega
  · have := List.mem_of_mem_drop (List.mem_of_mem_take hz)
    exact (List.mem_append.mp this).elim (words_nm z) (words_nm z)
theorem wd1_sum : ∀ {l : List Str}, (∀ y ∈ l, Wd 1 y) → (l.map (·.length)).sum ≤ l.length
  | [], _ => Nat.le_refl _
  | a :: r, h => by
    have h1 := (h a List.mem_cons_self).1
    have h2 := wd1_sum (l := r) fun y hy => h y (List.mem_cons_of_mem _ hy)
    simp only [List.map_cons, List.sum_cons, List.length_cons]
    omega
end Pot

namespace Pot
open PySem PySem.Spec PyProof.Rows L2
/-! ### the palettes of cluster C -/
structure PalC (cs : List Col) (ws : List Wsh) : Prop where
  ok : PalOk cs ws
  ne : 0 < cs.length
  le : cs.length ≤ 12
  ch : ∀ c ∈ cs, 1 ≤ c.2.1 ∧ c.2.1 ≤ 20 ∧ 0 ≤ c.2.2.1 ∧ c.2.2.1 ≤ 99
  wa : ∀ r ∈ ws, ∀ i, r.2.2 = some i → 0 ≤ i ∧ i ≤ 99
  wd : ∀ c ∈ cs, Nm c.1
  nd : (cs.map (·.1)).Nodup
  wp : (ws.map fun r => (r.1, r.2.1)).Nodup
  wn : ∀ r ∈ ws, r.1 ≠ r.2.1
/-- what stands while a palette is made: the names at N, colours at C, washes at W -/
structure PMc (K : PySem.W.Frag) (H0 : Hp) (b C W N : Addr) (ns : List Str) (n : Nat) (xs us : List V) (cs : List Col) (ws : List Wsh) (H : Hp) : Prop where
  st : Bp H b n
  sm : Sm [b] H0 H
  hN : off H [C, W, b] N = some (.lst (ns.map V.str))
  hC : H C = some (.lst xs)
  dC : DpAll K (off H [C, W, b]) xs (cs.map colD)
  hW : H W = some (.lst us)
  dW : DpAll K (off H [C, W, b]) us (ws.map washD)
structure PAc (H0 : Hp) (b C W : Addr) : Prop where
  Cb : C ≠ b
  Wb : W ≠ b
  CW : C ≠ W
  nC : H0 C = none
  nW : H0 W = none
section
variable {K : PySem.W.Frag} {H0 H H' : Hp} {b C W N p : Addr} {ns : List Str} {n m : Nat} {xs us : List V} {cs : List Col} {ws : List Wsh} {o : HO}
theorem PMc.live (P : PMc K H0 b C W N ns n xs us cs ws H) : Live [C, W, b] H := ((Live.pw P.st).cons P.hW).cons P.hC
theorem PMc.drawn (P : PMc K H0 b C W N ns n xs us cs ws H) (a : PAc H0 b C W) (st : Bp H' b m) (s : Sm [b] H H') : PMc K H0 b C W N ns m xs us cs ws H' :=
  have s2 : Sm [C, W, b] H H' := sm_one (by simp) s
  ⟨st, P.sm.trans s, s2 _ _ P.hN, sm1_at s a.Cb P.hC, dpAll_same s2 P.dC, sm1_at s a.Wb P.hW, dpAll_same s2 P.dW⟩
theorem PMc.same (P : PMc K H0 b C W N ns n xs us cs ws H) (s : Same H H') : PMc K H0 b C W N ns n xs us cs ws H' :=
  have s2 : Sm [C, W, b] H H' := sm_of s
  ⟨P.st.same s, P.sm.trans (sm_of s), s2 _ _ P.hN, s _ _ P.hC, dpAll_same s2 P.dC, s _ _ P.hW, dpAll_same s2 P.dW⟩
theorem PMc.put (P : PMc K H0 b C W N ns n xs us cs ws H) (h : H p = none) : PMc K H0 b C W N ns n xs us cs ws (upd H p o) := P.same (same_upd h)
theorem PMc.mono (P : PMc K H0 b C W N ns n xs us cs ws H) (h : n ≤ m) : PMc K H0 b C W N ns m xs us cs ws H := ⟨P.st.mono h, P.sm, P.hN, P.hC, P.dC, P.hW, P.dW⟩
theorem PMc.colour (P : PMc K H0 b C W N ns n xs us cs ws H) (a : PAc H0 b C W) {v : V} {r : Col} (hv : Dp K (off H [C, W, b]) v (colD r)) : PMc K H0 b C W N ns n (xs ++ [v]) us (cs ++ [r]) ws (upd H C (.lst (xs ++ [v]))) :=
  have s2 : Sm [C, W, b] H (upd H C (.lst (xs ++ [v]))) := sm_wr (by simp)
  ⟨P.st.wr a.Cb, smp P.sm a.nC, s2 _ _ P.hN, upd_same, by rw [List.map_append]; exact dpAll_same s2 (dpAll_app P.dC (.cons hv .nil)), by rw [upd_ne a.CW.symm]; exact P.hW, dpAll_same s2 P.dW⟩
theorem PMc.wash (P : PMc K H0 b C W N ns n xs us cs ws H) (a : PAc H0 b C W) {v : V} {r : Wsh} (hv : Dp K (off H [C, W, b]) v (washD r)) : PMc K H0 b C W N ns n xs (us ++ [v]) cs (ws ++ [r]) (upd H W (.lst (us ++ [v]))) :=
  have s2 : Sm [C, W, b] H (upd H W (.lst (us ++ [v]))) := sm_wr (by simp)
  ⟨P.st.wr a.Wb, smp P.sm a.nW, s2 _ _ P.hN, by rw [upd_ne a.CW]; exact P.hC, dpAll_same s2 P.dC, upd_same, by rw [List.map_append]; exact dpAll_same s2 (dpAll_app P.dW (.cons hv .nil))⟩
end
theorem rows_cols (cs : List Col) : RowsCmp (cs.map colD) := by
  refine ⟨fun d hd => ?_, fun x r x2 r2 h1 h2 => ?_, fun xs ys h1 h2 => ?_⟩
  · obtain ⟨c, _, rfl⟩ := List.mem_map.mp hd
    exact ⟨_, _, rfl⟩
  · obtain ⟨c, _, e⟩ := List.mem_map.mp h1
    obtain ⟨c2, _, e2⟩ := List.mem_map.mp h2
    obtain ⟨rfl, _⟩ := List.cons.inj (PyData.tuple.inj e)
    obtain ⟨rfl, _⟩ := List.cons.inj (PyData.tuple.inj e2)
    rfl
  · obtain ⟨c, _, e⟩ := List.mem_map.mp h1
    obtain ⟨c2, _, e2⟩ := List.mem_map.mp h2
    rw [← PyData.tuple.inj e, ← PyData.tuple.inj e2]
    have a1 : ∀ x y : Str, PySem.W.alike (.str x) (.str y) = true := fun _ _ => rfl
    have a2 : ∀ x y : Int, PySem.W.alike (.int x) (.int y) = true := fun _ _ => rfl
    simp only [okCmp, a1, a2, Bool.true_and, Bool.or_true, Bool.and_true]
theorem depth_col (c : Col) : (colD c).depth ≤ 60 := by
  show PyData.depthAll _ + 1 ≤ 60
  simp only [PyData.depthAll, PyData.depth]
  omega
theorem depth_wash (r : Wsh) : (washD r).depth ≤ 60 := by
  show PyData.depthAll _ + 1 ≤ 60
  cases h : r.2.2 <;> (simp only [PyData.depthAll, PyData.depth, optD]; omega)
theorem alike_opt (o : Option Int) : PySem.W.alike (optD o) (optD o) = true := by cases o <;> rfl
theorem pair_eq {ws : List Wsh} (h : (ws.map fun r => (r.1, r.2.1)).Nodup) {r r2 : Wsh} (h1 : r ∈ ws) (h2 : r2 ∈ ws) (e1 : r.1 = r2.1) (e2 : r.2.1 = r2.2.1) : r = r2 := by
  obtain ⟨i, hi, rfl⟩ := List.getElem_of_mem h1
  obtain ⟨j, hj, rfl⟩ := List.getElem_of_mem h2
  have := (List.getElem_inj (i := i) (j := j) (h₀ := by rw [List.length_map]; exact hi) (h₁ := by rw [List.length_map]; exact hj) h).mp (by rw [List.getElem_map, List.getElem_map]; exact Prod.ext e1 e2)
  subst this; rfl
theorem rows_wash {ws : List Wsh} (h : (ws.map fun r => (r.1, r.2.1)).Nodup) : RowsCmp (ws.map washD) := by
  refine ⟨fun d hd => ?_, fun x r x2 r2 h1 h2 => ?_, fun xs ys h1 h2 => ?_⟩
  · obtain ⟨c, _, rfl⟩ := List.mem_map.mp hd
    exact ⟨_, _, rfl⟩
  · obtain ⟨c, _, e⟩ := List.mem_map.mp h1
    obtain ⟨c2, _, e2⟩ := List.mem_map.mp h2
    obtain ⟨rfl, _⟩ := List.cons.inj (PyData.tuple.inj e)
    obtain ⟨rfl, _⟩ := List.cons.inj (PyData.tuple.inj e2)
    rfl
  · obtain ⟨c, m1, e⟩ := List.mem_map.mp h1
    obtain ⟨c2, m2, e2⟩ := List.mem_map.mp h2
    rw [← PyData.tuple.inj e, ← PyData.tuple.inj e2]
    have a1 : ∀ x y : Str, PySem.W.alike (.str x) (.str y) = true := fun _ _ => rfl
    simp only [okCmp, a1, Bool.true_and, Bool.or_true, Bool.and_true]
    cases e1 : PyData.eqv (.str c.1) (.str c2.1) with
    | false => rfl
    | true =>
      cases e3 : PyData.eqv (.str c.2.1) (.str c2.2.1) with
      | false => rfl
      | true =>
        have x1 : c.1 = c2.1 := by simpa [PyData.eqv] using e1
        have x2 : c.2.1 = c2.2.1 := by simpa [PyData.eqv] using e3
        rw [pair_eq h m1 m2 x1 x2, alike_opt]; rfl
section
variable {K : PySem.W.Frag}
theorem go_offB {H : Hp} {b : Addr} {n : Nat} (B : Bp H b n) (a : Addr) (us : List V) (h : SqT K H a us) : SqT K (off H [b]) a us := by
  obtain ⟨x, y, z, h1, _⟩ := B
  have go : ∀ o, (H a = some (.tup us) ∨ H a = some (.frz o (.tup us))) → a ∉ [b] := fun o e z => by
    rw [List.mem_singleton] at z; subst z; rw [h1] at e; rcases e with e | e <;> cases e
  rcases h with (h | ⟨o, h⟩) | h
  · exact .inl (.inl (by rw [off_out (go ⟨.none, none, .fields #[], #[]⟩ (.inl h))]; exact h))
  · exact .inl (.inr ⟨o, by rw [off_out (go o (.inr h))]; exact h⟩)
  · exact .inr h
theorem dp_offB {H : Hp} {b : Addr} {n : Nat} {v : V} {e : PyData} (B : Bp H b n) (h : noLAll.noL e) (p : Dp K H v e) : Dp K (off H [b]) v e := dp_go (go_offB B) h p
theorem dpAll_offB {H : Hp} {b : Addr} {n : Nat} {vs : List V} {es : List PyData} (B : Bp H b n) (h : noLAll es) (p : DpAll K H vs es) : DpAll K (off H [b]) vs es := dpAll_go (go_offB B) h p
end
theorem div_mod_inj {m i j : Nat} (h1 : i / m = j / m) (h2 : i % m = j % m) : i = j := by
  have a := Nat.div_add_mod i m
  have b := Nat.div_add_mod j m
  rw [h1, h2] at a
  omega
end Pot

namespace Pot
open PySem PySem.Spec PyProof.Rows L2
/-! ### a list that is filled while there is drawn, things beside it that stay -/
structure Acc (K : PySem.W.Frag) (H0 : Hp) (b R : Addr) (fs : List (V × PyData)) (n : Nat) (us : List V) (ds : List PyData) (H : Hp) : Prop where
  st : Bp H b n
  sm : Sm [b] H0 H
  Rb : R ≠ b
  nR : H0 R = none
  fr : ∀ p ∈ fs, Dp K (off H [R, b]) p.1 p.2
  hR : H R = some (.lst us)
  dR : DpAll K (off H [R, b]) us ds
section
variable {K : PySem.W.Frag} {H0 H H' : Hp} {b R p : Addr} {fs : List (V × PyData)} {n m : Nat} {us : List V} {ds : List PyData} {o : HO}
theorem Acc.live (M : Acc K H0 b R fs n us ds H) : Live [R, b] H := (Live.pw M.st).cons M.hR
theorem Acc.drawn (M : Acc K H0 b R fs n us ds H) (st : Bp H' b m) (s : Sm [b] H H') : Acc K H0 b R fs m us ds H' :=
  have s2 : Sm [R, b] H H' := sm_one (by simp) s
  ⟨st, M.sm.trans s, M.Rb, M.nR, fun q hq => dp_same s2 (M.fr q hq), sm1_at s M.Rb M.hR, dpAll_same s2 M.dR⟩
theorem Acc.same (M : Acc K H0 b R fs n us ds H) (s : Same H H') : Acc K H0 b R fs n us ds H' :=
  have s2 : Sm [R, b] H H' := sm_of s
  ⟨M.st.same s, M.sm.trans (sm_of s), M.Rb, M.nR, fun q hq => dp_same s2 (M.fr q hq), s _ _ M.hR, dpAll_same s2 M.dR⟩
theorem Acc.put (M : Acc K H0 b R fs n us ds H) (h : H p = none) : Acc K H0 b R fs n us ds (upd H p o) := M.same (same_upd h)
theorem Acc.mono (M : Acc K H0 b R fs n us ds H) (h : n ≤ m) : Acc K H0 b R fs m us ds H := ⟨M.st.mono h, M.sm, M.Rb, M.nR, M.fr, M.hR, M.dR⟩
theorem Acc.app (M : Acc K H0 b R fs n us ds H) {v : V} {d : PyData} (hv : Dp K (off H [R, b]) v d) : Acc K H0 b R fs n (us ++ [v]) (ds ++ [d]) (upd H R (.lst (us ++ [v]))) :=
  have s2 : Sm [R, b] H (upd H R (.lst (us ++ [v]))) := sm_wr (by simp)
  ⟨M.st.wr M.Rb, smp M.sm M.nR, M.Rb, M.nR, fun q hq => dp_same s2 (M.fr q hq), upd_same, dpAll_same s2 (dpAll_app M.dR (.cons hv .nil))⟩
/-- the list is new -/
theorem Acc.start (B : Bp H b n) (s : Sm [b] H0 H) (h : H R = none) (fr : ∀ p ∈ fs, Dp K (off H [b]) p.1 p.2) : Acc K H0 b R fs n [] [] (upd H R (.lst [])) :=
  ⟨B.put h, s.trans (sm_put h), B.ne h, sm_free s B.bx h, fun q hq => by
    have e : off (upd H R (.lst [])) [R, b] = off H [b] := off_fresh h
    rw [e]; exact fr q hq, upd_same, .nil⟩
theorem Acc.new (M : Acc K H0 b R fs n us ds H) (h : H p = none) : off (upd H p o) [R, b] p = some o := off_new M.live h
/-- the list done: a thing among the others -/
theorem Acc.done (M : Acc K H0 b R fs n us ds H) : Dp K (off H [b]) (.ref R) (.list ds) :=
  .lst (SqL.of (by rw [off_out (by simpa using M.Rb)]; exact M.hR)) (dpAll_same (off_mono (by simp)) M.dR)
theorem Acc.kept (M : Acc K H0 b R fs n us ds H) {q : V × PyData} (h : q ∈ fs) : Dp K (off H [b]) q.1 q.2 := dp_same (off_mono (by simp)) (M.fr q h)
end
theorem e106 : (10 : Int) ^ (6 : Int).toNat = 1000000 := by decide
end Pot

namespace Pot
open PySem PySem.Spec PyProof.Rows L2
section
variable {K : PySem.W.Frag}
/-! ### bounds of drawn data, its texts too -/
def txAll (n : Nat) : List PyData → Prop
  | [] => True
  | x :: xs => tx n x ∧ txAll n xs
where tx (n : Nat) : PyData → Prop
  | .str x => x.length ≤ n ∧ ∀ c ∈ x.cps.toList, c < 128
  | .list xs => txAll n xs
  | .tuple xs => txAll n xs
  | _ => True
abbrev tx (n : Nat) (d : PyData) : Prop := txAll.tx n d
theorem txAll_iff {n : Nat} : ∀ {ds : List PyData}, txAll n ds ↔ ∀ d ∈ ds, tx n d
  | [] => ⟨fun _ _ h => (List.not_mem_nil h).elim, fun _ => trivial⟩
  | x :: xs => ⟨fun h d hd => (List.mem_cons.mp hd).elim (fun e => by rw [e]; exact h.1) fun e => txAll_iff.mp h.2 d e, fun h => ⟨h x List.mem_cons_self, txAll_iff.mpr fun d hd => h d (List.mem_cons_of_mem _ hd)⟩⟩
mutual
theorem tx_mono {n k : Nat} (h : n ≤ k) : ∀ d : PyData, tx n d → tx k d
  | .none, _ => trivial
  | .bool _, _ => trivial
  | .int _, _ => trivial
  | .str x, g => ⟨Nat.le_trans g.1 h, g.2⟩
  | .list xs, g => txAll_mono h xs g
  | .tuple xs, g => txAll_mono h xs g
  | .dict _, _ => trivial
theorem txAll_mono {n k : Nat} (h : n ≤ k) : ∀ ds : List PyData, txAll n ds → txAll k ds
  | [], _ => trivial
  | x :: xs, g => ⟨tx_mono h x g.1, txAll_mono h xs g.2⟩
end
structure Bd (n m C D W : Nat) (d : PyData) : Prop where
  t : Th m C D W d
  x : tx n d
structure Bds (n m C D W : Nat) (ds : List PyData) : Prop where
  t : Ths m C D W ds
  x : ∀ d ∈ ds, tx n d
section
variable {n m C D W n' m' C' D' W' : Nat} {d x : PyData} {ds es xs ys : List PyData}
theorem Bd.mono (h : Bd n m C D W d) (a : n ≤ n') (b : m ≤ m') (c : C ≤ C') (e : D ≤ D') (f : W ≤ W') : Bd n' m' C' D' W' d := ⟨h.t.mono b c e f, tx_mono a d h.x⟩
theorem Bds.mono (h : Bds n m C D W ds) (a : n ≤ n') (b : m ≤ m') (c : C ≤ C') (e : D ≤ D') (f : W ≤ W') : Bds n' m' C' D' W' ds := ⟨h.t.mono b c e f, fun d hd => tx_mono a d (h.x d hd)⟩
theorem Bds.nil : Bds n m 0 D W [] := ⟨Ths.nil, fun _ h => (List.not_mem_nil h).elim⟩
theorem Bds.app (h : Bds n m C D W xs) (k : Bds n m C' D W ys) : Bds n m (C + C') D W (xs ++ ys) := ⟨h.t.app k.t, fun d hd => (List.mem_append.mp hd).elim (h.x d) (k.x d)⟩
theorem Bds.one (h : Bd n m C D W x) : Bds n m (C + 2) D W [x] := ⟨Ths.one h.t, fun d hd => by rw [List.mem_singleton.mp hd]; exact h.x⟩
theorem Bds.list (h : Bds n m C D W ds) (l : ds.length ≤ W) : Bd n m (C + 3) (D + 1) W (.list ds) := ⟨h.t.list l, txAll_iff.mpr h.x⟩
theorem Bds.tuple (h : Bds n m C D W ds) (l : ds.length ≤ W) : Bd n m (C + 3) (D + 1) W (.tuple ds) := ⟨h.t.tuple l, txAll_iff.mpr h.x⟩
theorem Bd.parts (h : Bd n m C D W d) (e : d = .list ds ∨ d = .tuple ds) : Bds n m (C - 3) (D - 1) W ds ∧ ds.length ≤ W ∧ 3 ≤ C ∧ 1 ≤ D := by
  obtain ⟨a, b⟩ := h.t.parts e
  refine ⟨⟨a, ?_⟩, b⟩
  rcases e with rfl | rfl
  · exact txAll_iff.mp h.x
  · exact txAll_iff.mp h.x
theorem Bds.take (h : Bds n m C D W ds) (k : Nat) : Bds n m C D W (ds.take k) := ⟨h.t.take k, fun d hd => h.x d (List.mem_of_mem_take hd)⟩
theorem Bds.drop (h : Bds n m C D W ds) (k : Nat) : Bds n m C D W (ds.drop k) := ⟨h.t.drop k, fun d hd => h.x d (List.mem_of_mem_drop hd)⟩
theorem Bds.rev (h : Bds n m C D W ds) : Bds n m C D W ds.reverse := ⟨h.t.rev, fun d hd => h.x d (List.mem_reverse.mp hd)⟩
theorem Bds.set {i : Nat} (h : Bds n m C D W ds) (k : Bd n m C' D W x) : Bds n m (C + C' + 2) D W (ds.set i x) := ⟨h.t.set k.t, fun d hd => (List.mem_or_eq_of_mem_set hd).elim (h.x d) fun e => by rw [e]; exact k.x⟩
theorem Bds.mem (h : Bds n m C D W ds) (e : d ∈ ds) : Bd n m C D W d := ⟨h.t.mem e, h.x d e⟩
theorem bd_int {i : Int} (h : i.natAbs ≤ m) : Bd n m 1921 0 0 (.int i) := ⟨⟨h, Nat.le_refl _, Nat.le_refl _, Nat.le_refl _⟩, trivial⟩
theorem bd_bool (b : Bool) : Bd n m 5 0 0 (.bool b) := ⟨⟨trivial, Nat.le_refl _, Nat.le_refl _, Nat.le_refl _⟩, trivial⟩
theorem bd_none : Bd n m 4 0 0 .none := ⟨⟨trivial, Nat.le_refl _, Nat.le_refl _, Nat.le_refl _⟩, trivial⟩
theorem bd_str {z : Str} (h : z.length ≤ n) (h2 : n ≤ 2000) (c : ∀ x ∈ z.cps.toList, x < 128) : Bd n m (10 * n + 2) 0 0 (.str z) := ⟨⟨⟨Nat.le_trans h h2, fun x hx => Nat.lt_trans (c x hx) (by decide)⟩, by show 10 * z.length + 2 ≤ _; omega, Nat.le_refl _, Nat.le_refl _⟩, h, c⟩
end
theorem text_small {i : Int} (h : i.natAbs < 10 ^ 11) : (Str.ofString (toString i)).length ≤ 12 := by
  rw [PySem.ofString_length]
  exact int_text_length_le10 (k := 11) (by decide) h
theorem text_ascii (i : Int) : ∀ c ∈ (Str.ofString (toString i)).cps.toList, c < 128 := by
  intro c hc
  refine Decidable.byContradiction fun h => ?_
  exact PyProof.Rows.int_text_free' c ⟨by omega, by omega⟩ i hc
theorem cut_small (z : Str) (lo hi : Option Int) : (cutS z lo hi).length ≤ z.length := by
  have := cut_len z lo hi
  have h1 : HT.sIx z.length z.length hi ≤ z.length := HT.sIx_le _ _ (Nat.le_refl _) _
  omega
theorem cut_dp {H : Hp} {xs : List V} {ds : List PyData} {n m C D W : Nat} (da : DpAll K H xs ds) (b : Bds n m C D W ds) (lo hi : Option Int) : ∃ ys es, cutV xs lo hi = ys ∧ DpAll K H ys es ∧ Bds n m C D W es ∧ es.length ≤ ds.length ∧ ys.length = es.length := by
  refine ⟨_, (ds.drop (HT.sIx xs.length 0 lo)).take (HT.sIx xs.length xs.length hi - HT.sIx xs.length 0 lo), rfl, ?_, (b.drop _).take _, ?_, ?_⟩
  · exact dpAll_take _ (dpAll_drop _ da)
  · rw [List.length_take, List.length_drop]; omega
  · exact dpAll_len (dpAll_take _ (dpAll_drop _ da))
theorem cut_one (xs : List V) (a : Nat) : (cutV xs (some (a : Int)) (some ((a : Int) + 1))).length ≤ 1 := by
  unfold cutV
  rw [List.length_take, List.length_drop]
  rw [show ((a : Int) + 1) = ((a + 1 : Nat) : Int) by omega, HT.sIx_nat, HT.sIx_nat]
  omega
theorem str_mem_app {a b : Str} {x : Nat} (h : x ∈ (a ++ b).cps.toList) : x ∈ a.cps.toList ∨ x ∈ b.cps.toList := by
  have e : (a ++ b).cps.toList = a.cps.toList ++ b.cps.toList := Array.toList_append
  rw [e] at h
  exact List.mem_append.mp h
abbrev SqA (K : PySem.W.Frag) (H : Hp) (a : Addr) (xs : List V) : Prop := SqL K H a xs ∨ SqT K H a xs
theorem sq_same {H H' : Hp} {a : Addr} {xs : List V} (s : Same H H') (h : SqA K H a xs) : SqA K H' a xs := h.imp s.seq (same_tup s)
theorem sqa_off {H : Hp} {S : List Addr} {a : Addr} {xs : List V} (h : SqA K (off H S) a xs) : SqA K H a xs := sq_same off_sub h
theorem sqa_len {H : Hp} {a : Addr} {xs : List V} (h : SqA K H a xs) : LenV K (.ref a) H xs.length := h.elim (fun h => .inl ⟨_, h, rfl⟩) (fun h => .inr ⟨_, h, rfl⟩)
end
theorem upper_len {z : Str} (h : ∀ c ∈ z.cps.toList, c < 128) : (Txt.upper z).length = z.length := by
  rw [PyProof.Rows.upper_ascii h]
  show (z.cps.map _).size = z.cps.size
  rw [Array.size_map]
theorem upper_small {z : Str} (h : ∀ c ∈ z.cps.toList, c < 128) : ∀ c ∈ (Txt.upper z).cps.toList, c < 128 := by
  rw [PyProof.Rows.upper_ascii h]
  intro c hc
  have hc : c ∈ z.cps.toList.map PyProof.Rows.up1 := by simpa using hc
  obtain ⟨d, hd, rfl⟩ := List.mem_map.mp hc
  have := h d hd
  unfold PyProof.Rows.up1
  split <;> omega
theorem log_smallW {i : Int} (h : i.natAbs ≤ 10 ^ 12) : i.natAbs.log2 < 1920 := by
  by_cases z : i.natAbs = 0
  · rw [z]; decide
  · have := (Nat.log2_lt z).mpr (show i.natAbs < 2 ^ 40 from Nat.lt_of_le_of_lt h (by decide))
    omega
mutual
theorem gd_fineW {m : Nat} (h : m ≤ 10 ^ 12) : ∀ d : PyData, gd m d → fineAll.fine d
  | .none, _ => trivial
  | .bool _, _ => trivial
  | .int i, g => log_smallW (Nat.le_trans g h)
  | .str _, g => fun c hc => Nat.lt_trans (g.2 c hc) (by decide)
  | .list xs, g => gdAll_fineW h xs g
  | .tuple xs, g => gdAll_fineW h xs g
  | .dict _, g => g.elim
theorem gdAll_fineW {m : Nat} (h : m ≤ 10 ^ 12) : ∀ ds : List PyData, gdAll m ds → fineAll ds
  | [], _ => trivial
  | x :: xs, g => ⟨gd_fineW h x g.1, gdAll_fineW h xs g.2⟩
end
theorem Nm.ascii {z : Str} (h : Nm z) : ∀ c ∈ z.cps.toList, c < 128 := fun c hc => by have := (h.1.2 c hc).2; omega
theorem ascii_of {s : String} (h : (Str.ofString s).cps.toList.all (fun c => decide (c < 128)) = true) : ∀ c ∈ (Str.ofString s).cps.toList, c < 128 := fun c hc => of_decide_eq_true (List.all_eq_true.mp h c hc)
theorem ascii_app {a b : Str} (h1 : ∀ x ∈ a.cps.toList, x < 128) (h2 : ∀ x ∈ b.cps.toList, x < 128) : ∀ x ∈ (a ++ b).cps.toList, x < 128 := fun x hx => (str_mem_app hx).elim (h1 x) (h2 x)
theorem ascii_cut {z : Str} (h : ∀ x ∈ z.cps.toList, x < 128) (lo hi : Option Int) : ∀ x ∈ (cutS z lo hi).cps.toList, x < 128 := fun x hx => h x (cut_mem hx)
end Pot

namespace Pot
open PySem PySem.Spec PyProof.Rows L2
/-! ### lists and tuples alike: slices, sums, places -/
section
variable {X : Cx} {K : PySem.W.Frag}
def rSlS' (K : PySem.W.Frag) : V → Option Int → Option Int → Hp → VK → Prop := fun x lo hi H Q => rSlL K x lo hi H Q ∨ rSlA K x lo hi H Q
theorem kl_any (h : X.K = K := by rfl) : SlR X (rSlS' K) := h ▸ SlR.or sl_list sl_tupA
def rCatS' (K : PySem.W.Frag) : R2 := fun x y H Q => rCat x y H Q ∨ rCatA K x y H Q
theorem ko_catS (h : X.K = K := by rfl) : OpR X (binaryOp .Add) (rCatS' K) := h ▸ OpR.or op_cat op_catA
def rIxS' (K : PySem.W.Frag) : R2 := fun x y H Q => rIxL K x y H Q ∨ rIxT K x y H Q
theorem kx_any (h : X.K = K := by rfl) : IxR X (rIxS' K) := h ▸ IxR.or ix_list ix_tup
end
/-- a list's or a tuple's data -/
def seqD (t : Bool) (ds : List PyData) : PyData := if t = true then .tuple ds else .list ds
theorem seqD_t (ds : List PyData) : seqD true ds = .tuple ds := rfl
theorem seqD_l (ds : List PyData) : seqD false ds = .list ds := rfl
theorem seqD_or (t : Bool) (ds : List PyData) : seqD t ds = .list ds ∨ seqD t ds = .tuple ds := by cases t; exact .inl rfl; exact .inr rfl
theorem seqD_tup (t : Bool) (ds : List PyData) : isTupD (seqD t ds) = t := by cases t <;> rfl
theorem seqD_seq (t : Bool) (ds : List PyData) : (isListD (seqD t ds) || isTupD (seqD t ds)) = true := by cases t <;> rfl
def cutL (ds : List PyData) (lo hi : Option Int) : List PyData := (ds.drop (HT.sIx ds.length 0 lo)).take (HT.sIx ds.length ds.length hi - HT.sIx ds.length 0 lo)
theorem cutL_le (ds : List PyData) (lo hi : Option Int) : (cutL ds lo hi).length ≤ ds.length := by
  unfold cutL
  rw [List.length_take, List.length_drop]; omega
theorem cutL_head (ds : List PyData) (a : Nat) : cutL ds none (some (a : Int)) = ds.take a := by
  unfold cutL
  rw [HT.sIx_nat]
  show (ds.drop 0).take (min a ds.length - 0) = _
  rw [List.drop_zero, Nat.sub_zero]
  rcases Nat.le_total a ds.length with h | h
  · rw [Nat.min_eq_left h]
  · rw [Nat.min_eq_right h, List.take_length, List.take_of_length_le h]
theorem cutL_tail (ds : List PyData) (a : Nat) : cutL ds (some (a : Int)) none = ds.drop a := by
  unfold cutL
  rw [HT.sIx_nat]
  show (ds.drop (min a ds.length)).take (ds.length - min a ds.length) = _
  rcases Nat.le_total a ds.length with h | h
  · rw [Nat.min_eq_left h, List.take_of_length_le (by rw [List.length_drop]; exact Nat.le_refl _)]
  · rw [Nat.min_eq_right h, List.drop_length, List.drop_of_length_le h, List.take_nil]
/-- a value that is a list of its own or a tuple -/
def SeqV (K : PySem.W.Frag) (H : Hp) (t : Bool) (y : V) (ds : List PyData) : Prop := ∃ a xs, y = .ref a ∧ DpAll K H xs ds ∧ (if t = true then SqT K H a xs else H a = some (.lst xs))
section
variable {K : PySem.W.Frag} {H H' : Hp} {S : List Addr} {t : Bool} {x y : V} {ds es : List PyData} {lo hi : Option Int} {Q : VK}
theorem SeqV.dp (h : SeqV K H t y ds) : Dp K H y (seqD t ds) := by
  obtain ⟨a, xs, rfl, da, hs⟩ := h
  cases t with
  | true => exact .tup hs da
  | false => exact .lst (SqL.of hs) da
theorem SeqV.same (s : Same H H') (h : SeqV K H t y ds) : SeqV K H' t y ds := by
  obtain ⟨a, xs, rfl, da, hs⟩ := h
  refine ⟨a, xs, rfl, dpAll_same s da, ?_⟩
  cases t with
  | true => exact same_tup s hs
  | false => exact s _ _ hs
theorem sl_seq (lv : Live S H) (d : Dp K (off H S) x (seqD t ds)) (q : ∀ H' y, Same H H' → SeqV K (off H' S) t y (cutL ds lo hi) → Q y H') : rSlS' K x lo hi H Q := by
  cases t with
  | true =>
    obtain ⟨a, xs, rfl, hs, da⟩ := dp_tup d
    have lx := dpAll_len da
    refine .inr ⟨a, xs, rfl, sqt_off hs, fun h => ?_, fun h p np => ?_⟩
    · refine q _ _ (Same.refl _) ⟨a, xs, rfl, ?_, hs⟩
      have e : cutL ds lo hi = ds := by
        unfold cutL
        rw [lx] at h
        rw [h.1, h.2, List.drop_zero, Nat.sub_zero, List.take_length]
      rw [e]; exact da
    · refine q _ _ (same_upd np) ⟨p, _, rfl, ?_, .inl (.inl (off_new lv np))⟩
      unfold cutL
      rw [← lx]
      exact dpAll_same (sm_put np) (dpAll_take _ (dpAll_drop _ da))
  | false =>
    obtain ⟨a, xs, rfl, hs, da⟩ := dp_lst d
    have lx := dpAll_len da
    refine .inl ⟨a, xs, rfl, sq_off hs, fun p np => ?_⟩
    refine q _ _ (same_upd np) ⟨p, _, rfl, ?_, off_new lv np⟩
    unfold cutL
    rw [← lx]
    exact dpAll_same (sm_put np) (dpAll_take _ (dpAll_drop _ da))
theorem cat_seq (lv : Live S H) (d : SeqV K (off H S) t x ds) (e : SeqV K (off H S) t y es) (l : ds.length + es.length ≤ sizeLine) (q : ∀ H' z, Same H H' → SeqV K (off H' S) t z (ds ++ es) → Q z H') : rCatS' K x y H Q := by
  obtain ⟨a, xs, rfl, da, hs⟩ := d
  obtain ⟨b, ys, rfl, db, ht⟩ := e
  have lx := dpAll_len da
  have ly := dpAll_len db
  cases t with
  | true =>
    have hs : SqT K (off H S) a xs := hs
    have ht : SqT K (off H S) b ys := ht
    refine .inr ⟨a, b, xs, ys, rfl, rfl, sqt_off hs, sqt_off ht, by rw [lx, ly]; exact l, fun z => ?_, fun z z2 => ?_, fun z z2 p np => ?_⟩
    · refine q _ _ (Same.refl _) ⟨b, ys, rfl, ?_, ht⟩
      have : ds = [] := List.length_eq_zero_iff.mp (by rw [← lx, z]; rfl)
      rw [this]; exact db
    · refine q _ _ (Same.refl _) ⟨a, xs, rfl, ?_, hs⟩
      have : es = [] := List.length_eq_zero_iff.mp (by rw [← ly, z2]; rfl)
      rw [this, List.append_nil]; exact da
    · exact q _ _ (same_upd np) ⟨p, _, rfl, dpAll_same (sm_put np) (dpAll_app' da db), .inl (.inl (off_new lv np))⟩
  | false =>
    have hs : off H S a = some (.lst xs) := hs
    have ht : off H S b = some (.lst ys) := ht
    exact .inl ⟨a, b, xs, ys, rfl, rfl, at_off hs, at_off ht, by rw [lx, ly]; exact l, fun p np => q _ _ (same_upd np) ⟨p, _, rfl, dpAll_same (sm_put np) (dpAll_app' da db), off_new lv np⟩⟩
theorem ix_seqV {i : Nat} {d : PyData} (h : Dp K (off H S) x (seqD t ds)) (g : ds[i]? = some d) (q : ∀ y, Dp K (off H S) y d → Q y H) : rIxS' K x (.int (i : Nat)) H Q := by
  cases t with
  | true =>
    obtain ⟨a, xs, rfl, hs, da⟩ := dp_tup h
    have lx := dpAll_len da
    have hi : i < xs.length := by rw [lx]; exact (List.getElem?_eq_some_iff.mp g).1
    obtain ⟨d2, g2, dp⟩ := dpAll_at da (List.getElem?_eq_getElem hi)
    rw [g] at g2
    cases g2
    exact .inr ⟨a, xs, _, _, rfl, rfl, sqt_off hs, atI_nat (List.getElem?_eq_getElem hi), q _ dp⟩
  | false =>
    obtain ⟨a, xs, rfl, hs, da⟩ := dp_lst h
    have lx := dpAll_len da
    have hi : i < xs.length := by rw [lx]; exact (List.getElem?_eq_some_iff.mp g).1
    obtain ⟨d2, g2, dp⟩ := dpAll_at da (List.getElem?_eq_getElem hi)
    rw [g] at g2
    cases g2
    exact .inl ⟨a, xs, _, _, rfl, rfl, sq_off hs, atI_nat (List.getElem?_eq_getElem hi), q _ dp⟩
theorem len_seq (h : Dp K (off H S) x (seqD t ds)) : LenV K x H ds.length := by
  cases t with
  | true =>
    obtain ⟨a, xs, rfl, hs, da⟩ := dp_tup h
    rw [← dpAll_len da]
    exact .inr ⟨_, sqt_off hs, rfl⟩
  | false =>
    obtain ⟨a, xs, rfl, hs, da⟩ := dp_lst h
    rw [← dpAll_len da]
    exact .inl ⟨_, sq_off hs, rfl⟩
end
section
variable {n m C D W : Nat} {ds : List PyData}
theorem Bds.cut (h : Bds n m C D W ds) (lo hi : Option Int) : Bds n m C D W (cutL ds lo hi) := (h.drop _).take _
theorem Bd.seq {t : Bool} (h : Bd n m C D W (seqD t ds)) : Bds n m C (D - 1) W ds ∧ ds.length ≤ W := by
  obtain ⟨a, b, c, d⟩ := h.parts (seqD_or t ds)
  exact ⟨a.mono (Nat.le_refl _) (Nat.le_refl _) (Nat.sub_le _ _) (Nat.le_refl _) (Nat.le_refl _), b⟩
theorem Bds.seq {t : Bool} (h : Bds n m C D W ds) (l : ds.length ≤ W) : Bd n m (C + 3) (D + 1) W (seqD t ds) := by
  cases t
  · exact h.list l
  · exact h.tuple l
end
end Pot

namespace Pot
open PySem PySem.Spec PyProof.Rows L2
/-! ### sums of numbers and truths -/
def nB : V → Option Int
  | .int i => some i
  | .bl b => some (if b = true then 1 else 0)
  | _ => none
section
variable {X : Cx}
def rNL (g : Int → Int → V) : R2 := fun x y H Q => ∃ i j, nB x = some i ∧ y = .int j ∧ Q (g i j) H
def rNR (g : Int → Int → V) : R2 := fun x y H Q => ∃ i j, x = .int i ∧ nB y = some j ∧ Q (g i j) H
theorem op_addB : OpR X (binaryOp .Add) (rNL fun i j => .int (i + j)) := by
  intro pins s σ H x y v u Q I rx ry h
  obtain ⟨i, j, hx, rfl, q⟩ := h
  obtain ⟨t, rfl⟩ := ry
  cases x with
  | int k =>
    obtain ⟨t2, rfl⟩ := rx
    cases hx
    exact add_int ⟨.int _, H, I.tok _, ⟨_, rfl⟩, q⟩
  | bl b =>
    cases rx
    cases hx
    exact PySem.IntBool.add_bool_int ⟨.int _, H, I.tok _, ⟨_, rfl⟩, q⟩
  | _ => cases hx
theorem op_subB : OpR X (binaryOp .Sub) (rNL fun i j => .int (i - j)) := by
  intro pins s σ H x y v u Q I rx ry h
  obtain ⟨i, j, hx, rfl, q⟩ := h
  obtain ⟨t, rfl⟩ := ry
  cases x with
  | int k =>
    obtain ⟨t2, rfl⟩ := rx
    cases hx
    exact sub_int ⟨.int _, H, I.tok _, ⟨_, rfl⟩, q⟩
  | bl b =>
    cases rx
    cases hx
    exact PySem.IntBool.sub_bool_int ⟨.int _, H, I.tok _, ⟨_, rfl⟩, q⟩
  | _ => cases hx
theorem op_subR : OpR X (binaryOp .Sub) (rNR fun i j => .int (i - j)) := by
  intro pins s σ H x y v u Q I rx ry h
  obtain ⟨i, j, rfl, hy, q⟩ := h
  obtain ⟨t, rfl⟩ := rx
  cases y with
  | int k =>
    obtain ⟨t2, rfl⟩ := ry
    cases hy
    exact sub_int ⟨.int _, H, I.tok _, ⟨_, rfl⟩, q⟩
  | bl b =>
    cases ry
    cases hy
    exact PySem.IntBool.sub_int_bool ⟨.int _, H, I.tok _, ⟨_, rfl⟩, q⟩
  | _ => cases hy
/-- the text of a number or a truth -/
def tNB : V → Str
  | .int i => Str.ofString (toString i)
  | .bl b => if b then "True" else "False"
  | _ => ""
theorem call_strB : CallR X (.type "str") (fun xs H Q => ∃ x i, xs = [x] ∧ nB x = some i ∧ i.natAbs.log2 < 1920 ∧ Q (.str (tNB x)) H) := by
  intro pins s σ H xs us Q I r h
  obtain ⟨x, i, rfl, hx, hz, q⟩ := h
  obtain ⟨u, rfl, rx⟩ := vals1 r
  cases x with
  | int k =>
    obtain ⟨t, rfl⟩ := rx
    cases hx
    exact PySem.P.str_of_int hz ⟨.str _, H, I.tok _, ⟨_, rfl⟩, q⟩
  | bl b =>
    cases rx
    cases hx
    exact PySem.P.str_of_bool ⟨.str _, H, I.tok _, ⟨_, rfl⟩, q⟩
  | _ => cases hx
end
end Pot

/-! own classes: len(x) by an own __len__, x == y and x != y by an own __eq__ -/
namespace OwnR
open PySem PySem.Spec PyProof.Rows PySem.Calls
section
variable {prog : Program} {w : World} {A : Around} {E : Value → Shared → Prop} {s : Shared} {K : PySem.W.Frag} {x C f : Addr} {ox : Obj} {odd : Option Obj} {b tb : Value}
theorem len_own {Q : Value → Shared → Prop} (X : K.In s.heap) (I : PySem.W.InstAt s.heap x ox C odd) (hs : PySem.W.findIn K (.ref C) "__len__" = some (some (.ref f))) (hf : PySem.W.isFn K (.ref f) = true)
    (h : wpAny (model prog w) A.in1 (call (.ref f) [.ref x]) (fun r s₁ => ∃ (n : Int) (t : Tok), r = Value.int n t ∧ 0 ≤ n ∧ n < 2 ^ 63 ∧ Q (.int n s₁.toks) { s₁ with toks := s₁.toks + 1 }) E s) : wpAny (model prog w) A (call (.builtin "len") [.ref x]) Q E s := by
  refine call_function_entry kind_len plain_len entry_len (args_len1 _) ?_
  unfold Builtin.«len»
  refine wpAny_bind (m := oneArg "len" _) (wpAny_pure ?_)
  refine wpAny_bind (m := callSpecial? (.ref x) (Str.ofString "__len__")) (PySem.W.special_fn X I hs (beq_iff_eq.mp hf) (wpAny_mono h (fun r s' hr => ?_) fun _ _ y => y))
  obtain ⟨n, t, rfl, h0, h1, hq⟩ := hr
  refine wpAny_bind (wpAny_holding (wpAny_pure ?_))
  refine wpAny_bind (wpAny_letGo ?_)
  show wpAny _ _ (if n < 0 then _ else _) _ _ _
  rw [if_neg (by omega)]
  show wpAny _ _ (if n ≥ 2 ^ 63 then _ else _) _ _ _
  rw [if_neg (by omega)]
  exact wpAny_bind (wpAny_mkInt (wpAny_pure ⟨_, rfl, hq⟩))
theorem ifBound_ne {M : Model} {args : List Value} {Q : Option Value → Shared → Prop} {od : Option Obj} (X : K.In s.heap) (I : PySem.W.InstAt s.heap x ox C od) (hs : PySem.W.findIn K (.ref C) "__ne__" = some (some (.builtin "object.__ne__")))
    (h : wpAny M A (call (.builtin "object.__ne__") (.ref x :: args)) (fun v => Q (some v)) E s) : wpAny M A (callSpecialIfBound? (.ref x) "__ne__" args) Q E s := by
  simp only [callSpecialIfBound?, bindSpecialIfBound?]
  refine wpAny_holding (wpAny_bind (wpAny_bind (wpAny_bind (I.type.here ((PySem.W.looks_findIn X hs).here ?_)))))
  refine wpAny_bind (wpAny_askSetting (wpAny_ite ?_))
  have ends : wpAny M A (call (.builtin "object.__ne__") ([.ref x] ++ args) >>= fun v => pure (some v)) Q E s := wpAny_bind (wpAny_mono h (fun v s' h' => wpAny_pure h') fun _ _ h' => h')
  split
  · exact wpAny_bind (wpAny_of_eq (F.cmp_object.ne.bind _) (wpAny_pure (by exact ends)))
  · exact wpAny_tryCatch (wpAny_bind (wpAny_of_eq (F.cmp_object.ne.bind _) (wpAny_pure (by exact ends))))
theorem obj_ne {Q : Value → Shared → Prop} {od : Option Obj} {y : Value} (hu : A.in1.units < cLine) (X : K.In s.heap) (I : PySem.W.InstAt s.heap x ox C od) (hm : PySem.W.mroIn K C (.type "object") = some true) (he : PySem.W.findIn K (.ref C) "__eq__" = some (some (.ref f))) (hf : PySem.W.isFn K (.ref f) = true)
    (h : wpAny (model prog w) A.in1 (call (.ref f) [.ref x, y]) (fun v s' => ∃ b, v = .bool b ∧ Q (.bool (!b)) s') E s) : wpAny (model prog w) A (call (.builtin "object.__ne__") [.ref x, y]) Q E s := by
  refine wpAny_call (codeAny_call_builtin F.cmp_object.ne.plain F.cmpEntry_ne (PySem.W.check_slot F.cmpKind_ne F.cmpSplit_ne (I.type.andThen (PySem.W.looks_mroIn X hm)) (F.cmpArgs_ne _ _) ?_))
  unfold Builtin.«object.__ne__»
  refine wpAny_bind (m := slotArgs "__ne__" 1 _) (wpAny_pure ?_)
  refine wpAny_bind (m := cRoomFor _ _) (wpAny_cRoomFor hu ?_)
  refine wpAny_bind (m := callSpecialIfBound? (.ref x) (Str.ofString "__eq__") _) (PySem.W.ifBound_K X I he hf (wpAny_mono h (fun r s' hq => ?_) fun _ _ y => y))
  obtain ⟨b, rfl, q⟩ := hq
  exact wpAny_bind (m := truthy (.bool _)) (wpAny_truthy_bool (wpAny_pure q))
theorem cmp_ne {Q : Value → Shared → Prop} {od : Option Obj} {h₀ : Heap} {L : Addr} {m : Str → Option Value} (hu : A.units + 2 < cLine) (F : Fr h₀ L s.heap m) (X₀ : K.In h₀) (I : PySem.W.InstAt s.heap x ox C od) (hb : PySem.W.Looks (model prog w) s.heap (typeOf b) tb) (hn : PySem.W.notFirst K C tb = true)
    (hm : PySem.W.mroIn K C (.type "object") = some true) (hs : PySem.W.findIn K (.ref C) "__ne__" = some (some (.builtin "object.__ne__"))) (he : PySem.W.findIn K (.ref C) "__eq__" = some (some (.ref f))) (hf : PySem.W.isFn K (.ref f) = true)
    (h : wpAny (model prog w) A.in1 (call (.ref f) [.ref x, b]) (fun v s' => ∃ b, v = .bool b ∧ Q (.bool (!b)) s') E s) : wpAny (model prog w) A (richCompare .NotEq (.ref x) b) Q E s := by
  have X := X₀.keeps F.keep
  have one : wpAny (model prog w) A (tryCompare (.ref x) "__ne__" b) (fun r s' => ∃ v, r = some v ∧ Q v s') E s := by
    unfold tryCompare
    refine wpAny_bind (ifBound_ne X I hs (obj_ne (by show A.units + 1 < cLine; omega) X I hm he hf (wpAny_mono h (fun v s' hv => ?_) fun _ _ e => e)))
    obtain ⟨c, rfl, q⟩ := hv
    exact ⟨c, rfl, wpAny_pure ⟨_, rfl, q⟩⟩
  unfold richCompare
  simp only [oneThing_ref]
  refine wpAny_holding (wpAny_bind (wpAny_cRoomFor (by omega) ?_))
  refine wpAny_bind (I.type.here (wpAny_bind (hb.here ?_)))
  rw [cmpInfo_NotEq]
  dsimp only
  split
  · rename_i q
    have e : PySem.W.subIn K tb (.ref C) = some false := by
      rcases Bool.or_eq_true_iff.mp hn with e | e
      · rw [beq_iff_eq.mp e] at q; simp at q
      · exact beq_iff_eq.mp e
    refine wpAny_bind ((PySem.W.looks_subIn X e).here ?_)
    simp only [Bool.false_eq_true, if_false]
    refine wpAny_bind (wpAny_mono one (fun r s' z => ?_) fun _ _ e => e)
    obtain ⟨v, rfl, hq⟩ := z
    exact wpAny_pure hq
  · refine wpAny_bind (wpAny_pure ?_)
    simp only [Bool.false_eq_true, if_false]
    refine wpAny_bind (wpAny_mono one (fun r s' z => ?_) fun _ _ e => e)
    obtain ⟨v, rfl, hq⟩ := z
    exact wpAny_pure hq
end
end OwnR
namespace L2
open PySem PySem.Spec PyProof.Rows
section
variable {X : Cx} {CX : CXT} {C g : Addr} {n : Nat} {sp : Sp} {E : XK}
/-- len(x), x of the class at C, whose __len__ is at g -/
def rLenI (C : Addr) (sp : Sp) (E : XK) : List V → Hp → VK → Prop := fun xs H Q => ∃ (a dx : Addr) (fs : List (Str × V)), xs = [V.ref a] ∧ H a = some (.ins C dx fs) ∧ sp [.ref a] H (fun z H' => ∃ m : Nat, z = .int (m : Nat) ∧ m < 2 ^ 40 ∧ Q z H') E
theorem call_lenI (hs : PySem.W.findIn X.K (.ref C) "__len__" = some (some (.ref g))) (hf : PySem.W.isFn X.K (.ref g) = true) (F : FnR X.prog X.w X.K X.mg X.base CX n g sp) (hr : Room (n + 1) X.A) (hx : Passes CX X E) : CallR X (.builtin "len") (rLenI C sp E) := by
  intro pins s σ H xs us Q I r h
  obtain ⟨a, dx, fs, rfl, ha, q⟩ := h
  obtain ⟨u, rfl, ru⟩ := r.one
  cases (show u = Value.ref a from ru)
  obtain ⟨mA, J, _⟩ := ins_get I.hok ha
  obtain ⟨od, J, _⟩ := J.look
  have hr2 : Room n X.A.in1 := hr.in1
  refine OwnR.len_own I.kIn J hs hf (wpAny_mono (wpAny_call (SlX.run_at (us := [.ref a]) (ws := [.ref a]) F hr2 I.env0.in1 hx I (.cons rfl .nil) q)) (fun w s' z => ?_) fun _ _ x => x)
  obtain ⟨z', H', I', rz, i, ei, hi, qz⟩ := z
  subst ei
  obtain ⟨t, e⟩ := (show ∃ t, w = Value.int _ t from rz)
  cases e
  exact ⟨_, t, rfl, by omega, by omega, .int _, H', I'.tok _, ⟨_, rfl⟩, qz⟩
/-- x == y, x of the class at C, whose __eq__ is at g; y an instance, not of a class below C -/
def rEqI (K : PySem.W.Frag) (C : Addr) (sp : Sp) (E : XK) : R2 := fun x y H Q => ∃ (a dx : Addr) (fs : List (Str × V)) (b C' dy : Addr) (gs : List (Str × V)), x = .ref a ∧ y = .ref b ∧ H a = some (.ins C dx fs) ∧ H b = some (.ins C' dy gs) ∧ PySem.W.notFirst K C (.ref C') = true ∧ sp [x, y] H (fun z H' => ∃ c, z = .bl c ∧ Q (.bl c) H') E
theorem op_eqI (hs : PySem.W.findIn X.K (.ref C) "__eq__" = some (some (.ref g))) (hf : PySem.W.isFn X.K (.ref g) = true) (F : FnR X.prog X.w X.K X.mg X.base CX n g sp)
    (hr : Room n X.A) (hx : Passes CX X E) : OpR X (compareOp .Eq) (rEqI X.K C sp E) := by
  intro pins s σ H x y v u Q I rx ry h
  obtain ⟨a, dx, fs, b, C', dy, gs, rfl, rfl, ha, hb, hn, q⟩ := h
  cases (show v = Value.ref a from rx)
  cases (show u = Value.ref b from ry)
  obtain ⟨mA, J, _⟩ := ins_get I.hok ha
  obtain ⟨od, J, _⟩ := J.look
  obtain ⟨mB, J', _⟩ := ins_get I.hok hb
  obtain ⟨od', J', _⟩ := J'.look
  obtain ⟨m, hF⟩ := I.fr
  show wpAny (model X.prog X.w) X.A (richCompare .Eq (.ref a) (.ref b)) (EP X pins σ Q) X.xe s
  refine PySem.W.cmp_K (op := .Eq) (tb := .ref C') hr.units0 hF I.ok.mod.kin J J'.type hn hs hf ?_
  refine wpAny_mono (wpAny_call (run_fnR (us := [.ref a, .ref b]) (vs := [.ref a, .ref b]) F hr hx I (.cons rfl (.cons rfl .nil)) q)) (fun w s' z => ?_) fun _ _ x => x
  obtain ⟨z', H', I', rz, c, ec, qz⟩ := z
  subst ec
  exact SlX.cmpback rz ⟨.bl c, H', I', rz, qz⟩
/-- what != asks of a class with an __eq__ alone -/
structure NeK (K : PySem.W.Frag) (C : Addr) : Prop where
  ob : PySem.W.mroIn K C (.type "object") = some true
  ne : PySem.W.findIn K (.ref C) "__ne__" = some (some (.builtin "object.__ne__"))
theorem op_neI (hN : NeK X.K C) (hs : PySem.W.findIn X.K (.ref C) "__eq__" = some (some (.ref g))) (hf : PySem.W.isFn X.K (.ref g) = true) (F : FnR X.prog X.w X.K X.mg X.base CX n g sp)
    (hr : Room (n + 1) X.A) (hu : X.A.units + 2 < cLine) (hx : Passes CX X E) : OpR X (compareOp .NotEq) (rEqI X.K C (fun vs H Q E => sp vs H (fun z H' => ∃ c, z = .bl c ∧ Q (.bl (!c)) H') E) E) := by
  intro pins s σ H x y v u Q I rx ry h
  obtain ⟨a, dx, fs, b, C', dy, gs, rfl, rfl, ha, hb, hn, q⟩ := h
  cases (show v = Value.ref a from rx)
  cases (show u = Value.ref b from ry)
  obtain ⟨mA, J, _⟩ := ins_get I.hok ha
  obtain ⟨od, J, _⟩ := J.look
  obtain ⟨mB, J', _⟩ := ins_get I.hok hb
  obtain ⟨od', J', _⟩ := J'.look
  obtain ⟨m, hF⟩ := I.fr
  show wpAny (model X.prog X.w) X.A (richCompare .NotEq (.ref a) (.ref b)) (EP X pins σ Q) X.xe s
  refine OwnR.cmp_ne (tb := .ref C') hu hF I.ok.mod.kin J J'.type hn hN.ob hN.ne hs hf ?_
  refine wpAny_mono (wpAny_call (SlX.run_at (us := [.ref a, .ref b]) (ws := [.ref a, .ref b]) F hr.in1 I.env0.in1 hx I (.cons rfl (.cons rfl .nil)) q)) (fun w s' z => ?_) fun _ _ x => x
  obtain ⟨z', H', I', rz, c, ec, c2, ec2, qz⟩ := z
  subst ec
  cases (show w = Value.bool c from rz)
  cases ec2
  exact ⟨c, rfl, .bl (!c), H', I', rfl, qz⟩
end
/-- the class at C has a method m of its own, with a promise -/
structure Own (P : Program) (w : World) (K : PySem.W.Frag) (mg : Str → Option Value) (base : Heap) (k : Nat) (C : Addr) (m : Str) (sp : Sp) : Prop where
  ex : ∃ g : Addr, PySem.W.findIn K (.ref C) m = some (some (.ref g)) ∧ PySem.W.isFn K (.ref g) = true ∧ FnR P w K mg base CX0 k g sp
theorem own_of {P : Program} {w : World} {K : PySem.W.Frag} {mg : Str → Option Value} {base : Heap} {k : Nat} {C g : Addr} {m : Str} {sp : Sp} {fd : FuncData} {ps : List Str} (M : Meth K C m g) (F : FnOk P w K mg base CX0 k g fd ps sp) (b : Binds K fd ps []) : Own P w K mg base k C m sp :=
  ⟨g, M.at_, M.fn, by
    have z := F.raw b .nil

    exact z.imp fun vs H Q E h => (by show sp (vs ++ []) H Q E; rw [List.append_nil]; exact h)⟩
section
variable {X : Cx} {k j : Nat} {C : Addr} {sp : Sp}
theorem kc_lenI (c : Own X.prog X.w X.K X.mg X.base k C "__len__" sp) (hr : Room j X.A) (hk : k + 1 ≤ j) : CallR X (.builtin "len") (rLenI C sp E0) := by
  obtain ⟨g, h1, h2, F⟩ := c.ex
  exact call_lenI h1 h2 F (hr.mono hk) pass0
theorem ko_eqI (c : Own X.prog X.w X.K X.mg X.base k C "__eq__" sp) (hr : Room j X.A) (hk : k ≤ j) : OpR X (compareOp .Eq) (rEqI X.K C sp E0) := by
  obtain ⟨g, h1, h2, F⟩ := c.ex
  exact op_eqI h1 h2 F (hr.mono hk) pass0
theorem ko_neI (c : Own X.prog X.w X.K X.mg X.base k C "__eq__" sp) (hN : NeK X.K C) (hr : Room j X.A) (hk : k + 1 ≤ j) (hu : X.A.units + 64 < cLine) : OpR X (compareOp .NotEq) (rEqI X.K C (fun vs H Q E => sp vs H (fun z H' => ∃ c, z = .bl c ∧ Q (.bl (!c)) H') E) E0) := by
  obtain ⟨g, h1, h2, F⟩ := c.ex
  exact op_neI hN h1 h2 F (hr.mono hk) (by omega) pass0
end
/-- the class at C may be made by its name x; its __init__ promises sp; dvs fill up what is left out -/
structure OMak (P : Program) (w : World) (K : PySem.W.Frag) (mg : Str → Option Value) (base : Heap) (k : Nat) (x : Str) (C : Addr) (sp : Sp) (dvs : List V) : Prop where
  parts : ∃ (g : Addr) (fd : FuncData) (ps : List Str) (ds : List Value), Mk K C g ∧ FnOk P w K mg base CX0 k g fd ps sp ∧ mg x = some (.ref C) ∧ Binds K fd ps ds ∧ Vals dvs ds
/-- a method m of the class at C may be called -/
structure OMet (P : Program) (w : World) (K : PySem.W.Frag) (mg : Str → Option Value) (base : Heap) (k : Nat) (C : Addr) (m : Str) (sp : Sp) (dvs : List V) : Prop where
  parts : ∃ (g : Addr) (fd : FuncData) (ps : List Str) (ds : List Value), Cls K C ∧ Meth K C m g ∧ FnOk P w K mg base CX0 k g fd ps sp ∧ Binds K fd ps ds ∧ Vals dvs ds
section
variable {X : Cx} {k j : Nat} {C : Addr} {x m : Str} {sp : Sp} {dvs : List V} {p pos apos : Pos} {a e o : Expr} {es : List Expr} {ta : TE} {t : TA}
theorem pe_omk (c : OMak X.prog X.w X.K X.mg X.base k x C sp dvs) (room : Room j X.A) (le : k + 1 ≤ j) (gl : Gl X x) (args : PA X (a :: es) t) (nodb : (x == ("__debug__" : Str)) = false := by decide)
    (star : starEach (a :: es) X.env = (false, eval a X.env) :: starEach es X.env := by rfl) (plain : (backTo pos (starEach es X.env)).any (·.1) = false := by rfl) : PE X (.Call (.Name x p) (a :: es) [] pos) (tMake C sp dvs E0 t) := by
  obtain ⟨g, fd, ps, ds, M, F, hm, b, v⟩ := c.parts
  exact pe_make M F (room.mono le) gl hm b v pass0 args nodb star plain
theorem pe_omt {pl : Sem Bool} (c : OMet X.prog X.w X.K X.mg X.base k C m sp dvs) (room : Room j X.A) (le : k ≤ j) (ho : PE X o ta) (args : PA X (a :: es) t)
    (star : starEach (a :: es) X.env = (false, eval a X.env) :: starEach es X.env := by rfl) (plain : (backTo pos (starEach es X.env)).any (·.1) = false := by rfl)
    (way : eval (.Call (.Attribute o m apos) (a :: es) [] pos) X.env = (do let ov ← eval o X.env; standAt apos.atName; let (g, first) ← holding [ov] (getMethod ov m pl); callWith pos g first (backTo pos (starEach (a :: es) X.env)) (backToKw pos (keywordEach [] X.env))) := by rfl) :
    PE X (.Call (.Attribute o m apos) (a :: es) [] pos) (tMeth C m sp dvs E0 ta t) := by
  obtain ⟨g, fd, ps, ds, hc, hm, F, b, v⟩ := c.parts
  exact pe_meth (pl := pl) ho hc hm F (room.mono le) b v pass0 args star plain way
theorem pe_omt0 {pl : Sem Bool} (c : OMet X.prog X.w X.K X.mg X.base k C m sp dvs) (room : Room j X.A) (le : k ≤ j) (ho : PE X o ta)
    (way : eval (.Call (.Attribute o m apos) [] [] pos) X.env = (do let ov ← eval o X.env; standAt apos.atName; let (g, first) ← holding [ov] (getMethod ov m pl); callWith pos g first (backTo pos (starEach [] X.env)) (backToKw pos (keywordEach [] X.env))) := by rfl) :
    PE X (.Call (.Attribute o m apos) [] [] pos) (tMeth C m sp dvs E0 ta tNil) := by
  obtain ⟨g, fd, ps, ds, hc, hm, F, b, v⟩ := c.parts
  exact pe_meth0 (pl := pl) ho hc hm F (room.mono le) b v pass0 way
theorem ke_fld {K : PySem.W.Frag} {f : Str} (ho : PE X o ta) (hb : attributeBase o f X.env (eval o X.env) = eval o X.env := by rfl) (h : X.K = K := by rfl) : PE X (.Attribute o f pos) (tFld K ta f) := h ▸ pe_fld ho hb
end
end L2

/-! == and != of an own object and what is of a built-in kind -/
namespace L2
open PySem PySem.Spec PyProof.Rows
/-- the kind of a value -/
def KdV (K : PySem.W.Frag) (T : String) (x : V) (H : Hp) : Prop := match x with
  | .non => T = "NoneType"
  | .bl _ => T = "bool"
  | .str _ => T = "str"
  | .int _ => T = "int"
  | .ref p => (T = "list" ∧ ∃ xs, SqL K H p xs) ∨ (T = "tuple" ∧ ∃ xs, SqT K H p xs)
  | _ => False
theorem looks_ty {M : Model} {s : Shared} {v : Value} {T : String} (h : s.TypeIs v T) : PySem.W.Looks M s.heap (typeOf v) (.type T) := by
  cases v with
  | ref a =>
    obtain ⟨o, e, c⟩ := h
    rw [← c]
    exact (PySem.W.Looks.ld e).andThen .now
  | _ => exact PySem.W.Looks.of_pure h
theorem kdV_is {X : Cx} {pins : List (Addr × Obj)} {σ : St} {H : Hp} {s : Shared} {T : String} {x : V} {v : Value} (I : Inv X pins σ H s) (r : RelV x v) (ty : KdV X.K T x H) : s.TypeIs v T := by
  cases x with
  | non =>
    cases r
    cases (show T = "NoneType" from ty)
    rfl
  | bl b =>
    cases r
    cases (show T = "bool" from ty)
    rfl
  | str z =>
    obtain ⟨t, rfl⟩ := r
    cases (show T = "str" from ty)
    exact typeIs_str s z t
  | int i =>
    obtain ⟨t, rfl⟩ := r
    cases (show T = "int" from ty)
    exact typeIs_int s i t
  | ref p =>
    cases r
    rcases ty with ⟨rfl, xs, hq⟩ | ⟨rfl, xs, hq⟩
    · obtain ⟨its, _, pl, _⟩ := I.list hq
      exact pl.isList.typeIs
    · obtain ⟨its, _, pl, _⟩ := I.tuple hq
      first | exact pl.typeIs | exact pl.isTuple.typeIs | exact (by obtain ⟨o, n, e, c, _⟩ := pl; exact ⟨o, e, c⟩) | exact (by obtain ⟨o, e, c, _⟩ := pl; exact ⟨o, e, c⟩)
  | _ => exact False.elim ty
section
variable {X : Cx} {CX : CXT} {C g : Addr} {n : Nat} {sp : Sp} {E : XK}
/-- x == y, x of the class at C, whose __eq__ is at g; y of a built-in kind T -/
def rEqB (K : PySem.W.Frag) (C : Addr) (sp : Sp) (E : XK) : R2 := fun x y H Q => ∃ (a dx : Addr) (fs : List (Str × V)) (T : String), x = .ref a ∧ H a = some (.ins C dx fs) ∧ KdV K T y H ∧ PySem.W.notFirst K C (.type T) = true ∧ sp [x, y] H (fun z H' => ∃ c, z = .bl c ∧ Q (.bl c) H') E
theorem op_eqB (hs : PySem.W.findIn X.K (.ref C) "__eq__" = some (some (.ref g))) (hf : PySem.W.isFn X.K (.ref g) = true) (F : FnR X.prog X.w X.K X.mg X.base CX n g sp)
    (hr : Room n X.A) (hx : Passes CX X E) : OpR X (compareOp .Eq) (rEqB X.K C sp E) := by
  intro pins s σ H x y v u Q I rx ry h
  obtain ⟨a, dx, fs, T, rfl, ha, hk, hn, q⟩ := h
  cases (show v = Value.ref a from rx)
  obtain ⟨mA, J, _⟩ := ins_get I.hok ha
  obtain ⟨od, J, _⟩ := J.look
  obtain ⟨m, hF⟩ := I.fr
  show wpAny (model X.prog X.w) X.A (richCompare .Eq (.ref a) u) (EP X pins σ Q) X.xe s
  refine PySem.W.cmp_K (op := .Eq) (tb := .type T) hr.units0 hF I.ok.mod.kin J (looks_ty (kdV_is I ry hk)) hn hs hf ?_
  refine wpAny_mono (wpAny_call (run_fnR (us := [.ref a, u]) (vs := [.ref a, y]) F hr hx I (.cons rfl (.cons ry .nil)) q)) (fun w s' z => ?_) fun _ _ x => x
  obtain ⟨z', H', I', rz, c, ec, qz⟩ := z
  subst ec
  exact SlX.cmpback rz ⟨.bl c, H', I', rz, qz⟩
theorem op_neB (hN : NeK X.K C) (hs : PySem.W.findIn X.K (.ref C) "__eq__" = some (some (.ref g))) (hf : PySem.W.isFn X.K (.ref g) = true) (F : FnR X.prog X.w X.K X.mg X.base CX n g sp)
    (hr : Room (n + 1) X.A) (hu : X.A.units + 2 < cLine) (hx : Passes CX X E) : OpR X (compareOp .NotEq) (rEqB X.K C (fun vs H Q E => sp vs H (fun z H' => ∃ c, z = .bl c ∧ Q (.bl (!c)) H') E) E) := by
  intro pins s σ H x y v u Q I rx ry h
  obtain ⟨a, dx, fs, T, rfl, ha, hk, hn, q⟩ := h
  cases (show v = Value.ref a from rx)
  obtain ⟨mA, J, _⟩ := ins_get I.hok ha
  obtain ⟨od, J, _⟩ := J.look
  obtain ⟨m, hF⟩ := I.fr
  show wpAny (model X.prog X.w) X.A (richCompare .NotEq (.ref a) u) (EP X pins σ Q) X.xe s
  refine OwnR.cmp_ne (tb := .type T) hu hF I.ok.mod.kin J (looks_ty (kdV_is I ry hk)) hn hN.ob hN.ne hs hf ?_
  refine wpAny_mono (wpAny_call (SlX.run_at (us := [.ref a, u]) (ws := [.ref a, y]) F hr.in1 I.env0.in1 hx I (.cons rfl (.cons ry .nil)) q)) (fun w s' z => ?_) fun _ _ x => x
  obtain ⟨z', H', I', rz, c, ec, c2, ec2, qz⟩ := z
  subst ec
  cases (show w = Value.bool c from rz)
  cases ec2
  exact ⟨c, rfl, .bl (!c), H', I', rfl, qz⟩
theorem ko_eqB (c : Own X.prog X.w X.K X.mg X.base k C "__eq__" sp) (hr : Room j X.A) (hk : k ≤ j) : OpR X (compareOp .Eq) (rEqB X.K C sp E0) := by
  obtain ⟨g, h1, h2, F⟩ := c.ex
  exact op_eqB h1 h2 F (hr.mono hk) pass0
theorem ko_neB (c : Own X.prog X.w X.K X.mg X.base k C "__eq__" sp) (hN : NeK X.K C) (hr : Room j X.A) (hk : k + 1 ≤ j) (hu : X.A.units + 64 < cLine) : OpR X (compareOp .NotEq) (rEqB X.K C (fun vs H Q E => sp vs H (fun z H' => ∃ c, z = .bl c ∧ Q (.bl (!c)) H') E) E0) := by
  obtain ⟨g, h1, h2, F⟩ := c.ex
  exact op_neB hN h1 h2 F (hr.mono hk) (by omega) pass0
end
end L2
namespace L2
open PySem PySem.Spec PyProof.Rows
/-- isinstance of anything whose class is told, and an own class -/
def rIsT (K : PySem.W.Frag) (C : Addr) : List V → Hp → VK → Prop := fun xs H Q => ∃ (x : V) (t : Value) (b : Bool), xs = [x, .ref C] ∧ TyOf K H x t ∧ PySem.W.kitOne K t (.ref C) = some b ∧ Q (.bl b) H
theorem kc_isT {X : Cx} {C : Addr} : CallR X (.builtin "isinstance") (rIsT X.K C) := by
  intro pins s σ H xs us Q I r h
  obtain ⟨x, t, b, rfl, ty, e, q⟩ := h
  obtain ⟨u, w', rfl, ru, rw'⟩ := vals2 r
  cases rw'
  exact isinst_ok I ru ty e fun tk => ⟨.bl b, H, I.tok _, rfl, q⟩
end L2

set_option maxHeartbeats 2000000
namespace RLam
open PySem PySem.Spec PyProof.Rows L2 PySem.Calls
/-! ### a lambda with one value by place, its answer the first part of a row of a captured list, turned -/
section
variable {prog : Program} {w : World} {B : Around} {s : Shared}
theorem ld_captured {E : Value → Shared → Prop} {env : Env} {o : Str} {co : Addr} {v : Value} {Q : Value → Shared → Prop} {p : Pos} (hk : env.scope.kind = .function) (hl : env.kindOf o = some .free) (hc : env.cells.lookup o = some co) (hv : s.heap.IsCell co (some v))
    (h : Q v s) (hd : (o == ("__debug__" : Str)) = false) (hcd : (o == ("__classdict__" : Str)) = false) : wpAny (model prog w) B (eval (.Name o p) env) Q E s :=
  wpAny_Name (wpAny_loadName_free hk hl hc hv h hcd) hd
theorem ld_own {E : Value → Shared → Prop} {env : Env} {o : Str} {m : Str → Option Value} {v : Value} {Q : Value → Shared → Prop} {p : Pos} (hk : env.scope.kind = .function) (hl : env.kindOf o = some .local) (hn : s.heap.Ns env.locals m) (hv : m o = some v)
    (h : Q v s) (hd : (o == ("__debug__" : Str)) = false) : wpAny (model prog w) B (eval (.Name o p) env) Q E s :=
  wpAny_Name (wpAny_loadName_local hk hl hn hv h) hd
theorem turn_neg {f c' co L tp : Addr} {q o n : Str} {params : Arguments} {scope : Scope} {cl : List (Str × Addr)} {pm ctv : Value} {its us : List Value} {i : Nat} {t0 t1 : Tok} {r : Int} {p1 p2 p3 p4 p5 p6 : Pos} {j : Nat}
    (hf : s.heap.get? f = some (PySem.W.kla_obj "<lambda>" q params (.UnaryOp .USub (.Subscript (.Subscript (.Name o p1) (.Name n p2) p3) (.Constant (.int 0) j p4) p5) p6) scope cl pm c' ctv))
    (hcd : ∃ (oc : Obj) (vs : Array Value) (t : Tok), s.heap.get? c' = some oc ∧ oc.data = .fields vs ∧ vs[1]? = some (.str q t))
    (hroom : B.depth < recursionLimit) (lim : s.heap.NoLimit) (hco : scope.isCoroutine = false) (hge : scope.isGenerator = false) (hk : scope.kind = .function) (hnc : ∀ x ∈ scope.names, x.2 ≠ .cell)
    (hn : scope.names.lookup n = some .local) (ho : scope.names.lookup o = some .free)
    (hbind : ∀ (u v : Value), bindArgs (PySem.W.kla_fn "<lambda>" q params (.UnaryOp .USub (.Subscript (.Subscript (.Name o p1) (.Name n p2) p3) (.Constant (.int 0) j p4) p5) p6) scope cl pm u ctv) ⟨[v], []⟩ = pure [(n, v)])
    (hcl : cl.lookup o = some co) (hcell : s.heap.IsCell co (some (.ref L))) (hL : s.heap.IsList L its.toArray) (hi : its[i]? = some (.ref tp)) (hi63 : i < 2 ^ 63) (hT : IsTup s.heap tp us.toArray) (hu : us[0]? = some (.int r t1)) (hus : us.length < 2 ^ 63)
    (hd1 : (o == ("__debug__" : Str)) = false := by decide) (hd2 : (o == ("__classdict__" : Str)) = false := by decide) (hd3 : (n == ("__debug__" : Str)) = false := by decide) :
    wpAny (model prog w) B (call (.ref f) [.int (i : Int) t0]) (PySem.W.KeyPure (.int (-r)) s) (fun _ _ => False) s := by
  refine wpAny_call (PySem.W.kla_callFunE hroom hf rfl hco hge rfl ?_ ?_)
  · obtain ⟨oc, vs, t, a, b, c⟩ := hcd
    exact ⟨c', oc, vs, t, rfl, a, b, c⟩
  rw [hbind]
  refine wpAny_pure (wpAny_newFunctionEnv hnc (fun y hy => ?_) (fun h₁ hns hsb => ⟨lim.fresh _ hsb, ?_⟩) hk)
  · rw [List.mem_singleton] at hy
    rw [hy]
    exact hn
  have kp : ∀ b o, s.heap.get? b = some o → h₁.get? b = some o := fun b o e => hsb.extBut b o (Nat.ne_of_lt (Heap.lt_size e)) (Heap.get?_push_of_some _ e)
  have hcell' : h₁.IsCell co (some (.ref L)) := by
    obtain ⟨oc, e1, e2⟩ := hcell
    exact ⟨oc, kp _ _ e1, e2⟩
  have hL' : h₁.IsList L its.toArray := by
    obtain ⟨oc, e1, e2⟩ := hL
    exact ⟨oc, kp _ _ e1, e2⟩
  have hT' : IsTup h₁ tp us.toArray := hT.keeps kp
  refine PySem.W.kla_codeExpr ?_
  refine UnaryOp_ (Subscript_ (Subscript_ (ld_captured hk ho hcl hcell' (ld_own (v := .int (i : Int) t0) hk hn hns ?_ ?_ hd3) hd1 hd2)))
  · show ([(n, Value.int (i : Int) t0)] : List (Str × Value)).reverse.lookup n = _
    simp [List.lookup]
  · have l63 := line63
    refine item_listR (x := .ref tp) hL' (by omega) (by omega) (by simpa using hi) ?_ (by with_unfolding_all rfl)
    refine wpAny_Constant_int ?_
    refine subscriptTail_builtinR (x := .int r t1) hT'.typeIs slot_tuple_getitem.lookup (getItem_tuple (j := 0) (x := .int r t1) (Q := fun u s' => u = .int r t1 ∧ _) hT' (by omega) (by omega) ?_ ?_ ⟨rfl, ?_⟩) (by with_unfolding_all rfl)
    · rw [List.size_toArray]
      have hz : 0 < us.length := (List.getElem?_eq_some_iff.mp hu).1
      exact seqIndex_of (by omega) (by omega)
    · simpa using hu
    · exact neg_int ⟨_, _, rfl, fun b o e => kp b o e, .int _ _⟩
end

/-! ### lists of values -/
theorem each_of {β : Type} {f : β → V} : ∀ {bs : List β} {us : List Value}, Vals (bs.map f) us → PySem.W.EachIs (fun u b => RelV (f b) u) us bs
  | [], _, r => by
    cases r
    exact .nil
  | b :: bs, _, r => by
    cases r with
    | cons a r => exact .cons a (each_of r)
theorem of_each {β : Type} {f : β → V} : ∀ {bs : List β} {us : List Value}, PySem.W.EachIs (fun u b => RelV (f b) u) us bs → Vals (bs.map f) us
  | _, _, .nil => .nil
  | _, _, .cons a r => .cons a (of_each r)
theorem sqL_ext {K : PySem.W.Frag} {H H' : Hp} {a : Addr} {xs : List V} (h : SqL K H a xs) (e : LamX.ExtN H H') : SqL K H' a xs := by
  rcases h with (h | ⟨o, h⟩) | h
  · exact .inl (.inl (e _ _ h fun ps z => by cases z))
  · exact .inl (.inr ⟨o, e _ _ h fun ps z => by cases z⟩)
  · exact .inr h
theorem sqT_ext {K : PySem.W.Frag} {H H' : Hp} {a : Addr} {xs : List V} (h : SqT K H a xs) (e : LamX.ExtN H H') : SqT K H' a xs := by
  rcases h with (h | ⟨o, h⟩) | h
  · exact .inl (.inl (e _ _ h fun ps z => by cases z))
  · exact .inl (.inr ⟨o, e _ _ h fun ps z => by cases z⟩)
  · exact .inr h
/-- the names of a lambda with the parameter n that reads o -/
structure LamN (sc scope : Scope) (n o : Str) : Prop where
  kind : scope.kind = .function
  co : scope.isCoroutine = false
  gen : scope.isGenerator = false
  cells : ∀ x ∈ scope.names, x.2 ≠ .cell
  par : scope.names.lookup n = some .local
  free : scope.names.lookup o = some .free
  up : ∀ y ∈ scope.names, y.2 = .free → sc.names.lookup y.1 = some .cell ∨ sc.names.lookup y.1 = some .free
theorem cr_range1 {X : Cx} : CallR X (.type "range") (fun vs H Q => ∃ i, vs = [V.int i] ∧ ∀ p, H p = none → Q (.ref p) (upd H p (.rng 0 i))) := by
  intro pins s σ H vs us Q I r h
  obtain ⟨i, rfl, q⟩ := h
  obtain ⟨u1, rfl, ri⟩ := vals1 r
  obtain ⟨t, rfl⟩ := ri
  refine call_range_1 ⟨.ref s.heap.objs.size, upd H s.heap.objs.size (.rng 0 i), I.laid (t' := s.toks + 2) (fun b o e => Heap.get?_push_of_some _ e) (Nat.le_refl _) ?_, rfl, q _ (I.hok.fresh (Nat.le_refl _))⟩
  exact ⟨_, _, _, Heap.get?_push_size _ rfl⟩
/-- sorted(range(m), key=lambda n: -o[n][0]) -/
def tSortLam (K : PySem.W.Frag) (T : List (Addr × Str)) (io : Nat) (ta : TA) : TE := fun σ H Q => ta σ H fun vs H1 => ∃ (p L : Addr) (m : Nat) (xs : List V) (rk : Nat → Int), vs = [V.ref p] ∧ H1 p = some (.rng 0 (m : Int)) ∧ m ≤ 2 ^ 24 ∧ LamX.Tabs T H1 ∧
  σ[io]? = some (some (.ref L)) ∧ SqL K H1 L xs ∧ (∀ i, i < m → ∃ (tp : Addr) (us : List V), xs[i]? = some (.ref tp) ∧ SqT K H1 tp us ∧ us[0]? = some (.int (rk i))) ∧
  ∀ H2, LamX.ExtN H1 H2 → LamX.Tabs T H2 → ∀ q, H2 q = none → Q (.ref q) (upd H2 q (.lst (((List.range m).mergeSort fun i j => decide (-rk i ≤ -rk j)).map fun i : Nat => V.int (i : Int))))
section
variable {X : Cx} {k : Nat} {T : List (Addr × Str)} {io : Nat} {ta : TA} {e : Expr} {n o : Str} {c P : Addr} {params : Arguments} {scope : Scope} {p kpos lpos pos p1 p2 p3 p4 p5 p6 : Pos} {j : Nat}
theorem pe_sortLam (hc : X.calm = true) (hg : Gl X "sorted") (hm : X.mg "sorted" = none) (ha : PA X [e] ta) (TB : LamX.TabB X.base X.mg c P) (hcode : X.env.code = .ref c) (hmT : (P, X.env.qual ++ "<lambda>") ∈ T) (hu : ∀ p ∈ T, p.1 = P → p.2 = X.env.qual ++ "<lambda>")
    (hr : Room (k + 1) X.A) (L : LamN X.env.scope scope n o) (hN : X.N[io]? = some o) (hdef : defaultsOf params X.env = ([], []))
    (hbind : ∀ (q : Str) (cl : List (Str × Addr)) (pm ctv u v : Value), bindArgs (PySem.W.kla_fn "<lambda>" q params (.UnaryOp .USub (.Subscript (.Subscript (.Name o p1) (.Name n p2) p3) (.Constant (.int 0) j p4) p5) p6) scope cl pm u ctv) ⟨[v], []⟩ = pure [(n, v)])
    (hd1 : (o == ("__debug__" : Str)) = false := by decide) (hd2 : (o == ("__classdict__" : Str)) = false := by decide) (hd3 : (n == ("__debug__" : Str)) = false := by decide)
    (he : backTo pos (starEach [e] X.env) = (false, eval e X.env) :: backTo pos (starEach [] X.env) := by rfl) (hpl : (backTo pos (starEach [e] X.env)).any (·.1) = false := by rfl) :
    PE X (.Call (.Name "sorted" p) [e] [⟨some "key", .Lambda params (.UnaryOp .USub (.Subscript (.Subscript (.Name o p1) (.Name n p2) p3) (.Constant (.int 0) j p4) p5) p6) scope lpos, kpos⟩] pos) (tSortLam X.K T io ta) := by
  refine ⟨fun pins s σ H Q I h => ?_⟩
  refine wpAny_Call_Name_kw (ld_blt I hg hm (by rfl) ?_)
  refine PyProof.Rows.callWith_kw (thn (ha.run pos pins s σ H _ I h) fun us s1 ⟨vs, H1, I1, r1, q1⟩ => ?_) he hpl (by rfl) (by rfl)
  obtain ⟨pr, La, m, xs, rk, rfl, hpr, hm24, hT, hσ, hL, hrow, q⟩ := q1
  obtain rfl := Vals.ref1 r1
  have hfree : ∀ y ∈ scope.names, y.2 = .free → ∃ c, X.env.cells.lookup y.1 = some c := fun y hy e => by
    rcases L.up y hy e with k | k
    · exact I1.ok.has _ (.inl k)
    · exact I1.ok.has _ (.inr k)
  show wpAny _ _ (evalAll [do let v ← eval _ X.env; standAt pos; pure v]) _ _ s1
  refine wpAny_evalAll_cons (wpAny_bind (LamX.lam_make2 I1 TB hcode hmT hu hT hdef hfree fun f c' pm ctv H2 s2 I2 eN T2 hf hfn hfr hco => wpAny_bind (wpAny_standAt (wpAny_pure (wpAny_evalAll_nil ?_)))))
  show wpAny _ _ (call (.builtin "sorted") [.ref pr] [(Str.ofString "key", .ref f)]) _ _ _
  obtain ⟨tr, tr2, tr3, hrg⟩ := I2.hok pr _ (eN _ _ hpr fun ps z => by cases z)
  obtain ⟨⟨oc, vsc, tc, hoc, hdc, hvc⟩, _, _⟩ := I2.hok c' _ hco
  obtain ⟨its, rv, pl, hz⟩ := I2.list (sqL_ext hL eN)
  have hup := L.up (o, .free) (PySem.mem_of_lookup L.free) rfl
  obtain ⟨mm, hns, hlk⟩ := I2.loc
  obtain ⟨u0, ru0, hlook⟩ := hlk io o (.ref La) hN hσ (hup.elim (fun z => .inr (.inl z)) (fun z => .inr (.inr z)))
  obtain rfl : u0 = Value.ref La := ru0
  obtain ⟨co, hcc, hcell⟩ : ∃ co, X.env.cells.lookup o = some co ∧ s2.heap.IsCell co (some (.ref La)) := by
    rcases hlook with ⟨z, _⟩ | ⟨_, z⟩
    · have z : X.env.scope.names.lookup o = some .local := z
      rcases hup with y | y <;> rw [show X.env.scope.names.lookup o = _ from y] at z <;> cases z
    · exact z
  have hcl : (cloFrom X.env.cells scope.names []).lookup o = some co := by
    obtain ⟨c1, e1⟩ := mem_lookup (cloFrom_has (cells := X.env.cells) (acc := []) (PySem.mem_of_lookup L.free))
    rcases cloFrom_mem (PySem.mem_of_lookup e1) with hm | ⟨h1, h2⟩
    · cases hm
    · rw [e1, h2, hcc]
      rfl
  have lim2 := I2.nolimit
  refine PyProof.Rows.call_function_entry_kw PyProof.Rows.kind_sorted PyProof.Rows.plain_sorted PyProof.Rows.entry_sorted (PyProof.Rows.ksk_s1 _ _) ?_
  unfold Builtin.«sorted»
  refine wpAny_bind (m := checkCount "sorted" 1 1 _) (wpAny_pure ?_)
  refine wpAny_bind (L2.collect_range (A := X.A.in1) (a := 0) (b := (m : Int)) (c := 1) (n := m) (I2.ok.hd hc) hrg (small_one (by omega) (by omega) (by omega) (by omega)) (by have e := rangeSize_nat 0 (m : Int); rw [e]; omega) hm24 fun h' tk acc hk hacc => ?_)
  have I3 : Inv X pins σ H2 { s2 with heap := h', toks := tk } := I2.kept hk
  have hal : acc.toList.length = m := by rw [Array.length_toList]; exact hacc.1
  refine wpAny_bind (wpAny_newList ?_ (by rw [hal, sizeLine_eq]; omega))
  have hoL : (h'.push (seqObj "list" acc.toList.toArray 0)).get? h'.objs.size = some (seqObj "list" acc.toList.toArray 0) := Heap.get?_push_size _ rfl
  show wpAny _ _ _ _ _ { s2 with heap := h'.push (seqObj "list" acc.toList.toArray 0), toks := tk }
  have hE : PySem.W.EachIs (fun (u : Value) (i : Nat) => RelV (V.int (i : Int)) u) acc.toList (List.range m) := by
    refine each_of ?_
    rw [← hal]
    refine vals_of_get acc.toList _ fun j u hj => ?_
    obtain ⟨t, rfl⟩ := hacc.2 j u (by rw [← hj, Array.getElem?_toList])
    exact ⟨t, by rw [Int.mul_one, Int.zero_add]⟩
  have old : ∀ b o, s2.heap.get? b = some o → b ≠ h'.objs.size ∧ (h'.push (seqObj "list" acc.toList.toArray 0)).get? b = some o := fun b o e => ⟨Nat.ne_of_lt (Heap.lt_size (hk b o e)), Heap.get?_push_of_some _ (hk b o e)⟩
  refine wpAny_bind (wpAny_holding (PySem.W.list_sort_key_data (b := false) (s := { s2 with heap := h'.push (seqObj "list" acc.toList.toArray 0), toks := tk }) (fun i : Nat => PyData.int (-rk i)) hoL hE (PySem.W.AllAlike.of fun _ _ => rfl) (PySem.W.Sortable.others fun b => ⟨fun z => (nomatch z), fun xs z => (nomatch z)⟩) (by rw [List.length_range, sizeLine_eq]; omega)
    (fun x _ => ?_) (PyProof.Rows.ksk_l1 _ _) (PyProof.Rows.ksk_t1 _ _) (fun v i hv hi hh tk2 kp => ?_) fun out cc hh tk2 kp hD hlen eo => ?_))
  · have := hr.un
    show X.A.units + 1 + 1 + 0 < _
    omega
  · obtain ⟨t0, rfl⟩ := hv
    have hi' : i < m := List.mem_range.mp hi
    obtain ⟨tp, us, hx, hS, hu0⟩ := hrow i hi'
    have kp2 : ∀ b o, s2.heap.get? b = some o → hh.get? b = some o := fun b o e => kp b o (old b o e).1 (old b o e).2
    obtain ⟨w1, ew, rw1⟩ := rv.get hx
    obtain rfl : w1 = Value.ref tp := rw1
    obtain ⟨us', rv', pl', hz'⟩ := I2.tuple (sqT_ext hS eN)
    obtain ⟨w2, ew2, rw2⟩ := rv'.get hu0
    obtain ⟨t3, rfl⟩ := rw2
    have l63 := line63
    have hpL : hh.IsList La its.toArray := by
      obtain ⟨oc, e1, e2⟩ := pl.isList
      exact ⟨oc, kp2 _ _ e1, e2⟩
    have hpC : hh.IsCell co (some (.ref La)) := by
      obtain ⟨oc, e1, e2⟩ := hcell
      exact ⟨oc, kp2 _ _ e1, e2⟩
    exact turn_neg (s := { s2 with heap := hh, toks := tk2 }) (kp2 _ _ hf) ⟨oc, vsc, tc, kp2 _ _ hoc, hdc, hvc⟩ hr.depth (lim2.keeps kp2) L.co L.gen L.kind L.cells L.par L.free (fun u v => hbind _ _ _ _ _ _) hcl hpC hpL ew (by omega) (pl'.keeps kp2) ew2 (by have := rv'.length; omega) hd1 hd2 hd3
  · rw [PySem.W.dataLe_int] at eo
    have hE2 : Vals (((List.range m).mergeSort fun i j => decide (-rk i ≤ -rk j)).map fun i : Nat => V.int (i : Int)) out := of_each eo
    refine wpAny_pure ⟨_, rfl, .ref h'.objs.size, upd H2 h'.objs.size (.lst _), I3.laid (t' := tk2) (fun b u e => ?_) (Nat.le_refl _) ⟨?_, out, cc, hE2, hD⟩, rfl, q H2 eN T2 _ (I3.hok.fresh (Nat.le_refl _))⟩
    · exact kp b u (Nat.ne_of_lt (Heap.lt_size e)) (Heap.get?_push_of_some _ e)
    · rw [List.length_map, List.length_mergeSort, List.length_range, sizeLine_eq]
      omega
end
end RLam

namespace Pot
open PySem PySem.Spec PyProof.Rows L2
open PySem.W (sortingHeap copyHeap sortLe alike alikeAll dataLt dataLe EachIs AllAlike Sortable)
section
variable {X : Cx} {K : PySem.W.Frag}
/-! ### two data of one form told apart by their order -/
theorem op_ltD (hu : X.A.units + 70 < cLine) : OpR X (compareOp .Lt) (fun x y H Q => ∃ da db, Dp X.K H x da ∧ Dp X.K H y db ∧ alike da db = true ∧ da ≠ .none ∧ da.depth ≤ 60 ∧ Q (.bl (dataLt da db)) H) := by
  intro pins s σ H x y v u Q I rx ry h
  obtain ⟨da, db, d1, d2, al, nn, dep, q⟩ := h
  obtain ⟨as, r1⟩ := Dp.reads I _ _ _ d1 rx
  obtain ⟨bs, r2⟩ := Dp.reads I _ _ _ d2 ry
  exact PySem.W.lt_data r1 r2 al nn (Nat.lt_of_le_of_lt (Nat.add_le_add_left (Nat.min_le_left _ _) _) (by omega)) ⟨.bl _, H, I, rfl, q⟩
theorem ko_ltD (hu : X.A.units + 70 < cLine) (h : X.K = K := by rfl) : OpR X (compareOp .Lt) (fun x y H Q => ∃ da db, Dp K H x da ∧ Dp K H y db ∧ alike da db = true ∧ da ≠ .none ∧ da.depth ≤ 60 ∧ Q (.bl (dataLt da db)) H) := h ▸ op_ltD hu
/-! ### sorted of rows, told by what they stand for -/
def rSortedE {β : Type} (K : PySem.W.Frag) (enc : β → PyData) : List V → Hp → VK → Prop := fun vs H Q => ∃ (a : Addr) (xs : List V) (bs : List β), vs = [V.ref a] ∧ SqL K H a xs ∧ DpAll K H xs (bs.map enc) ∧
  ∀ (zs : List V) (p : Addr), DpAll K H zs ((bs.mergeSort (dataLe false enc)).map enc) → H p = none → Q (.ref p) (upd H p (.lst zs))
theorem each_dp {β : Type} {enc : β → PyData} {pins : List (Addr × Obj)} {σ : L2.St} {H : Hp} {s : Shared} (I : Inv X pins σ H s) : ∀ {bs : List β} {xs : List V} {its : List Value}, Vals xs its → DpAll X.K H xs (bs.map enc) →
    EachIs (fun v b => ∃ x, RelV x v ∧ Dp X.K H x (enc b)) its bs ∧ EachIs (fun v b => ∃ as, Reads s.heap v (enc b) as) its bs
  | [], _, _, r, d => by
    cases d
    cases r
    exact ⟨.nil, .nil⟩
  | b :: bs, _, _, r, d => by
    cases d with
    | cons p ps =>
      cases r with
      | cons q qs =>
        obtain ⟨e1, e2⟩ := each_dp I qs ps
        exact ⟨.cons ⟨_, q, p⟩ e1, .cons (Dp.reads I _ _ _ p q) e2⟩
theorem dp_each {β : Type} {enc : β → PyData} {H : Hp} : ∀ {bs : List β} {its : List Value}, EachIs (fun v b => ∃ x, RelV x v ∧ Dp K H x (enc b)) its bs → ∃ xs, Vals xs its ∧ DpAll K H xs (bs.map enc)
  | _, _, .nil => ⟨[], .nil, .nil⟩
  | _, _, .cons ⟨x, r, d⟩ e => by
    obtain ⟨xs, rs, ds⟩ := dp_each e
    exact ⟨x :: xs, .cons r rs, .cons d ds⟩
theorem cr_sortedE {β : Type} {enc : β → PyData} (hu : X.A.units + 70 < cLine) (al : ∀ b b', alike (enc b) (enc b') = true) (tp : ∀ b, ∃ x r, enc b = .tuple (x :: r)) (dep : ∀ b, (enc b).depth ≤ 60) : CallR X (.builtin "sorted") (rSortedE X.K enc) := by
  intro pins s σ H vs0 us0 Q I r h
  obtain ⟨a, xs, bs, rfl, hs, da, q⟩ := h
  obtain ⟨its, rv, hl, hz⟩ := I.list hs
  rw [Vals.ref1 r]
  obtain ⟨e, er⟩ := each_dp I rv da
  have ln : bs.length ≤ sizeLine := by rw [← e.length, ← rv.length]; exact hz
  refine PySem.W.sorted_data hl.isList e er (AllAlike.of al) (Sortable.tuples tp) ln (fun b _ => by have := dep b; omega) fun out lo eo => ?_
  obtain ⟨zs, rz, dz⟩ := dp_each eo
  obtain ⟨ep, hat⟩ := PyProof.Rows.sortedAll_at s.heap its out.toArray
  exact ⟨.ref _, upd H (s.heap.objs.size + 1) (.lst zs), I.laid (t' := s.toks) (fun _ _ => PyProof.Rows.sortedAll_old) (Nat.le_succ _) ⟨by rw [rz.length, lo]; exact ln, out, ep, rz, hat⟩, rfl, q _ _ dz (I.hok.fresh (Nat.le_succ _))⟩
theorem kc_sortedE {β : Type} {enc : β → PyData} (hu : X.A.units + 70 < cLine) (al : ∀ b b', alike (enc b) (enc b') = true) (tp : ∀ b, ∃ x r, enc b = .tuple (x :: r)) (dep : ∀ b, (enc b).depth ≤ 60) (h : X.K = K := by rfl) : CallR X (.builtin "sorted") (rSortedE K enc) := h ▸ cr_sortedE hu al tp dep
/-! ### a[i] op= e of a list -/
def rGetL (K : PySem.W.Frag) : V → V → Hp → VK → Prop := fun x y H Q => ∃ (a : Addr) (xs : List V) (i : Nat) (v : V), x = .ref a ∧ y = .int (i : Int) ∧ SqL K H a xs ∧ xs[i]? = some v ∧ Q v H
theorem get_list : PGet X (rGetL X.K) := by
  intro pins s σ H x y ov iv Q I rx ry h
  obtain ⟨a, xs, i, v, rfl, rfl, hs, g, q⟩ := h
  cases rx
  obtain ⟨t, rfl⟩ := ry
  obtain ⟨its, r, pl, hz⟩ := I.list hs
  obtain ⟨u, eu, ru⟩ := r.get g
  have hi := (List.getElem?_eq_some_iff.mp g).1
  have := line63
  exact wpAny_getItem_list pl.isList (by omega) (by omega) (by simpa using eu) ⟨v, H, I, ru, q⟩
theorem kget_list (h : X.K = K := by rfl) : PGet X (rGetL K) := h ▸ get_list
end
end Pot

/-! sorted of rows that are told apart by parts that can be compared: the very list that comes of it -/
namespace Pot
open PySem PySem.Spec PyProof.Rows L2
open PySem.Calls
open PySem.W (sortingHeap copyHeap sortLe alike alikeAll keyToks keyToksAll dataLt dataKind SortsAt sortVals EachIs)
section
variable {X : Cx} {K : PySem.W.Frag}
def rSortedM (K : PySem.W.Frag) : List V → Hp → VK → Prop := fun vs H Q => ∃ (a : Addr) (xs : List V) (ds : List PyData), vs = [V.ref a] ∧ SqL K H a xs ∧ DpAll K H xs ds ∧ RowsCmp ds ∧ (∀ d ∈ ds, d.depth ≤ 60) ∧
  ∀ (zs : List V) (p : Addr), DpAll K H zs (ds.mergeSort (PySem.W.dataLe false fun d => d)) → H p = none → Q (.ref p) (upd H p (.lst zs))
theorem cr_sortedM (hu : X.A.units + 70 < cLine) : CallR X (.builtin "sorted") (rSortedM X.K) := by
  intro pins s σ H vs0 us0 Q I r h
  obtain ⟨a, xs, ds, rfl, hs, da, W, dep, q⟩ := h
  obtain ⟨its, rv, hl, hz⟩ := I.list hs
  rw [Vals.ref1 r]
  have da' : DpAll X.K H xs (ds.map fun d => d) := by rw [List.map_id']; exact da
  obtain ⟨e, er⟩ := each_dp (enc := fun d : PyData => d) I rv da'
  have ln : its.length ≤ sizeLine := by rw [← rv.length]; exact hz
  have er' : EachIs (fun v d => ∃ as, Reads (sortingHeap (copyHeap s.heap its) (s.heap.objs.size + 1) its) v d as) its ds := er.mono fun _ _ ⟨as, r⟩ => ⟨as, PyProof.Rows.Reads.keeps (fun _ _ => PySem.W.sorting_copy_old) r⟩
  have S := sorts_rows (prog := X.prog) (w := X.w) (A := X.A.in1.in1) (s := { s with heap := sortingHeap (copyHeap s.heap its) (s.heap.objs.size + 1) its }) er' W (fun d hd => by have := dep d hd; simp only [Around.in1]; omega)
  refine PySem.W.sorted_vals hl.isList S ln ?_
  have hk : EachIs (fun v d => (dataKind (sortingHeap (copyHeap s.heap its) (s.heap.objs.size + 1) its) ds).keyOf v = some (keyToks d)) its ds := by
    have key : ∀ {vs : List Value} {ls : List PyData}, EachIs (fun v d => ∃ as, Reads (sortingHeap (copyHeap s.heap its) (s.heap.objs.size + 1) its) v d as) vs ls → (∀ d ∈ ls, d ∈ ds) → EachIs (fun v d => (dataKind (sortingHeap (copyHeap s.heap its) (s.heap.objs.size + 1) its) ds).keyOf v = some (keyToks d)) vs ls := by
      intro vs ls h
      induction h with
      | nil => intro _; exact .nil
      | cons h t ih =>
        intro m
        obtain ⟨as, r⟩ := h
        exact .cons (key_of (m _ List.mem_cons_self) r) (ih fun d hd => m d (List.mem_cons_of_mem _ hd))
    exact key er' fun _ h => h
  have eo := PySem.W.sortVals_each (κ := dataKind (sortingHeap (copyHeap s.heap its) (s.heap.objs.size + 1) its) ds) (rev := false) (fun d : PyData => keyToks d) e hk
  have lo := PySem.W.sortVals_length (κ := dataKind (sortingHeap (copyHeap s.heap its) (s.heap.objs.size + 1) its) ds) false (ks := its) (vs := its) rfl
  generalize sortVals (dataKind (sortingHeap (copyHeap s.heap its) (s.heap.objs.size + 1) its) ds) false its its = out at eo lo ⊢
  obtain ⟨zs, rz, dz⟩ := dp_each eo
  rw [List.map_id'] at dz
  obtain ⟨ep, hat⟩ := PyProof.Rows.sortedAll_at s.heap its out.toArray
  exact ⟨.ref (s.heap.objs.size + 1), upd H (s.heap.objs.size + 1) (.lst zs), I.laid (t' := s.toks) (fun _ _ => PyProof.Rows.sortedAll_old) (Nat.le_succ _) ⟨by rw [rz.length, lo]; exact ln, out, ep, rz, hat⟩, rfl, q _ _ dz (I.hok.fresh (Nat.le_succ _))⟩
theorem kc_sortedM (hu : X.A.units + 70 < cLine) (h : X.K = K := by rfl) : CallR X (.builtin "sorted") (rSortedM K) := h ▸ cr_sortedM hu
end
end Pot

set_option maxHeartbeats 3900000
/-! own: exceptions whose __init__ says super().__init__(..), over any built-in base -/
namespace RSup
open PySem PySem.W PySem.Calls PyProof.Rows Builtin Builtin.ObjectAttr
section
variable {prog : Program} {w : World} {A : Around} {E : Value → Shared → Prop} {R : Result → Shared → Prop} {hp : Heap} {g : Array GenState} {d : Drawn} {t : Nat} {os : OsState} {B : String} {bmB : List Value}
theorem taker_none {K : Frag} {C : Addr} {name : Str} (h : findIn K (.ref C) name = some none) : takerIn K C name = some none := by
  unfold takerIn
  rw [h]; rfl
/-- the first field of an exception -/
theorem osa_first {K : Frag} {namew : Str} {tkw : Tok} {vw : Value} {xw C : Addr} {fvw : Array Value} {cdw : ClassData} (SF : StoreFacts B bmB "object.__setattr__" "object")
    (X : K.In heap) (stands : heap.get? xw = some { cls := .ref C, data := .fields fvw }) (isClass : clsIn K C = some cdw) (over : excOver K C bmB = true) (hasDict_ : cdw.hasDict = true) (unfound : findIn K (.ref C) namew = some none)
    (go : ∀ h'w tk'w dxw, (∀ bw ow, bw ≠ xw → heap.get? bw = some ow → h'w.get? bw = some ow) → heap.objs.size ≤ dxw → dxw ≠ xw → h'w.get? xw = some { cls := .ref C, dict := some dxw, data := .fields fvw } →
      h'w.Ns1 dxw (fun yw => if yw = namew then some vw else none) → R (.ok (.ret .none)) ⟨h'w, gw, dw, tk'w, osw⟩) :
    codeAny (model prog w) A (.call (.builtin "object.__setattr__") ⟨[.ref xw, .str namew tkw, vw], []⟩) R ⟨heap, gw, dw, tw, osw⟩ := by
  have I : InstAt heap xw { cls := .ref C, data := .fields fvw } C none := ⟨stands, rfl, rfl, trivial⟩
  have apart : xw ≠ heap.objs.size := Nat.ne_of_lt (Heap.lt_size stands)
  have looks : Looks (model prog w) heap (classData C) cdw := looks_clsIn X isClass
  refine osa_openX SF X I over (taker_none unfound) fun bbw => ?_
  show wpAny _ _ (storeInOwnDict (.ref xw) (.ref C) (.str namew tkw) namew vw bbw) _ _ _
  obtain ⟨nmw, bsw, mrow, nsw, qnw, hdw, snw, sbw, abw, colw, delw⟩ := cdw
  dsimp only at hasDict_
  subst hasDict_
  unfold storeInOwnDict
  unfold ownDictForStores
  repeat (first | with_reducible refine HandSPX.store_in_new ?_ ?_ | with_reducible refine wpAny_loadPart_at stands ?_ | with_reducible refine looks.at ?_ | wp_step)
  · exact ⟨_, #[], _, (Heap.get?_update_ne _ _ _ _ apart.symm).trans (Heap.get?_push_at rfl rfl), rfl, fun ew hew => absurd hew (by simp), fun _ => rfl⟩
  · intro h'w tk'w hn'w hsw
    have hx₁ : (heap.push { cls := .type "dict", data := .dict #[] }).get? xw = some { cls := .ref C, data := .fields fvw } := Heap.get?_push_of_some _ stands
    refine go h'w tk'w heap.objs.size (fun bw ow hbw how => ?_) (Nat.le_refl _) apart.symm ?_ hn'w
    · exact (hsw.2 bw (Nat.ne_of_lt (Heap.lt_size how))).trans ((Heap.get?_update_ne _ _ _ _ hbw).trans (Heap.get?_push_of_some _ how))
    · exact (hsw.2 xw apart).trans (Heap.get?_update_self _ hx₁ rfl)
/-- a further one -/
theorem osa_more {K : Frag} {namew : Str} {tkw : Tok} {vw : Value} {xw C dxw : Addr} {fvw : Array Value} {cdw : ClassData} {m0w : Str → Option Value} {nlw : List Str} (SF : StoreFacts B bmB "object.__setattr__" "object")
    (X : K.In heap) (stands : heap.get? xw = some { cls := .ref C, dict := some dxw, data := .fields fvw }) (keeps_ : heap.Ns1 dxw m0w) (hww : Within m0w nlw) (hzw : nlw.length ≤ 1000) (isClass : clsIn K C = some cdw) (over : excOver K C bmB = true) (hasDict_ : cdw.hasDict = true)
    (unfound : findIn K (.ref C) namew = some none)
    (go : ∀ h'w tk'w, (∀ bw ow, bw ≠ dxw → heap.get? bw = some ow → h'w.get? bw = some ow) → h'w.Ns1 dxw (fun yw => if yw = namew then some vw else m0w yw) → R (.ok (.ret .none)) ⟨h'w, gw, dw, tk'w, osw⟩) :
    codeAny (model prog w) A (.call (.builtin "object.__setattr__") ⟨[.ref xw, .str namew tkw, vw], []⟩) R ⟨heap, gw, dw, tw, osw⟩ := by
  obtain ⟨oDw, esDw, epDw, hoDw, hdDw, _⟩ := keeps_.count hww
  have I : InstAt heap xw { cls := .ref C, dict := some dxw, data := .fields fvw } C (some oDw) := ⟨stands, rfl, rfl, hoDw⟩
  have looks : Looks (model prog w) heap (classData C) cdw := looks_clsIn X isClass
  refine osa_openX SF X I over (taker_none unfound) fun bbw => ?_
  show wpAny _ _ (storeInOwnDict (.ref xw) (.ref C) (.str namew tkw) namew vw bbw) _ _ _
  obtain ⟨nmw, bsw, mrow, nsw, qnw, hdw, snw, sbw, abw, colw, delw⟩ := cdw
  dsimp only at hasDict_
  subst hasDict_
  unfold storeInOwnDict
  unfold ownDictForStores
  repeat (first | with_reducible refine OEX.store_in_old keeps_ hww hzw ?_ | with_reducible refine wpAny_loadPart_at stands ?_ | with_reducible refine looks.at ?_ | wp_step)
  intro h'w tk'w hn'w hsw
  exact go h'w tk'w (fun bw ow hbw how => (hsw.2 bw hbw).trans how) hn'w
end
end RSup
namespace RSup
open PySem PySem.Spec PyProof.Rows L2
/-- the class at C, over the built-in base with that newId and that mro -/
structure OexB (K : PySem.W.Frag) (C : Addr) (newId : String) (bmB : List Value) : Prop where
  cls : ∃ nm q N bs bm sn sub ab col dd k0 k1 k2 k3 k5, K.lookup C = some (excClassObj nm q C N bs bm true sn sub ab col dd k0 k1 k2 k3 k5 newId) ∧ PySem.W.excTail bmB bm = true
  sets : PySem.W.findIn K (.ref C) ("__setattr__" : Str) = some (some (Value.builtin "object.__setattr__"))
  excs : PySem.W.subIn K (.ref C) (Value.type "BaseException") = some true
  kind : PySem.W.typeIn K (.ref C) = some (Value.type "type")
  kept : PySem.W.keepIn K (Value.ref C) = true
theorem OexB.over {K : PySem.W.Frag} {C : Addr} {newId : String} {bmB : List Value} (T : OexB K C newId bmB) : PySem.W.excOver K C bmB = true := by
  obtain ⟨_, _, _, _, bm, _, _, _, _, _, _, _, _, _, _, hC, hbm⟩ := T.cls
  unfold PySem.W.excOver PySem.W.clsIn
  rw [hC]
  show (C == C && PySem.W.excTail bmB bm) = true
  rw [hbm, beq_self_eq_true]; rfl
theorem OexB.init {K : PySem.W.Frag} {C : Addr} {newId : String} {bmB : List Value} (T : OexB K C newId bmB) : PySem.W.excInitIn K C bmB newId = true := by
  obtain ⟨_, _, _, _, bm, _, _, _, _, _, _, _, _, _, _, hC, hbm⟩ := T.cls
  unfold PySem.W.excInitIn
  rw [hC]
  show (C == C && newId == newId && !false && PySem.W.excTail bmB bm) = true
  rw [hbm, beq_self_eq_true, beq_self_eq_true]; rfl
section
variable {X : Cx} {pins : List (Addr × Obj)} {σ : L2.St} {H : Hp} {s : Shared} {a C dx : Addr} {f : Str} {y : V} {u : Value} {fs : List (Str × V)} {Q : Unit → Shared → Prop} {E : Value → Shared → Prop} {A : Around} {B newId initId : String} {bmB : List Value}
/-- the first field of one that is being made -/
theorem ost_first (SF : StoreFacts B bmB "object.__setattr__" "object") (T : OexB X.K C newId bmB) (I : Inv X pins σ H s) (ew : H a = some (exo a C none)) (hnow : PySem.W.findIn X.K (.ref C) f = some none) (ryw : L2.RelV y u)
    (hw : ∀ dxw s', H dxw = none → dxw ≠ a → Inv X pins σ (upd (upd H dxw (exd dxw [(f, y)])) a (exo a C (some dxw))) s' → Q () s') : wpAny (model X.prog X.w) A (setAttr (.ref a) f u) Q E s := by
  obtain ⟨nmw, qw, N, bsw, bmw, snw, subw, abw, colw, ddw, k0w, k1w, k2w, k3w, k5w, hCw, hbmw⟩ := T.cls
  have hclw : PySem.W.clsIn X.K C = some { name := nmw, bases := bsw, mro := .ref C :: bmw, ns := N, qualname := qw, hasDict := true, slotNames := snw, subclasses := subw, abstract := abw, collection := colw, hasDel := false } := by unfold PySem.W.clsIn; rw [hCw] <;> rfl
  obtain ⟨t1w, how⟩ := exo_at I.hok ew
  obtain ⟨heap, gw, dw, tw, osw⟩ := s
  refine PySem.W.set_plain I.kIn (ox := { cls := .ref C, dict := none, data := .fields #[.ref t1w, .none, .none, .none, .bool false, .none] }) (od := none) ⟨how, rfl, rfl, trivial⟩ T.sets ?_
  refine osa_first SF I.kIn how hclw T.over rfl hnow (fun h'w tk'w dxw kw dnw dnew stands hnw => ?_)
  have hndw : H dxw = none := I.hok.fresh dnw
  have ndw : ∀ {bw : Addr} {ow : Obj}, heap.get? bw = some ow → bw ≠ dxw := fun {bw ow} qw => Nat.ne_of_lt (Nat.lt_of_lt_of_le (Heap.lt_size qw) dnw)
  have naw : ∀ {bw : Addr}, H bw = none → bw ≠ a := fun {bw} nw zw => by
    rw [zw, ew] at nw
    cases nw
  have Un1 : Un X.fs [] H (upd (upd H dxw (exd dxw [(f, y)])) a (exo a C (some dxw))) heap h'w := {
    keep := fun bw ow qw nw _ _ => kw bw ow (naw nw) qw
    slot := fun bw ow qw nw _ _ => ⟨ow.slots, kw bw ow (naw nw) qw⟩
    free := fun bw ow qw nw _ => by rw [upd_ne (naw nw), upd_ne (ndw qw)]; exact nw
    there := fun bw ow qw _ => by
      by_cases hb : bw = a
      · exact ⟨_, by rw [hb]; exact stands⟩
      · exact ⟨ow, kw bw ow hb qw⟩
    tups := fun bw xsw qw => by rw [upd_ne (at_ne ew qw exo_tup), upd_ne (ne_of_none qw hndw)]; exact qw
    frzs := fun bw ow vw qw => by rw [upd_ne (at_ne ew qw exo_frz), upd_ne (ne_of_none qw hndw)]; exact qw
    tbls := fun bw psw qw => ⟨#[], by rw [upd_ne (at_ne ew qw exo_tbl), upd_ne (ne_of_none qw hndw), qw]; simp⟩ }
  refine hw dxw _ hndw dnew (I.un (t' := tk'w) Un1 fun bw ow qw => ?_)
  by_cases hb : bw = a
  · subst hb
    rw [upd_same] at qw
    cases qw
    exact exo_ok stands
  · rw [upd_ne hb] at qw
    by_cases hdw : bw = dxw
    · subst hdw
      rw [upd_same] at qw
      cases qw
      exact exd_ok hnw (relO_put (fs := []) ryw fun gw => True.intro)
    · rw [upd_ne hdw] at qw
      exact (I.hok bw ow qw).stay (fun cw vw hcw zw => kw cw vw (by
          rcases hcw with hcw | hcw
          · rw [hcw]
            exact hb
          · exact at_ne ew hcw exo_own) zw)
        (fun cw hcw => by rw [upd_ne (at_ne ew hcw exo_own), upd_ne (ne_of_none hcw hndw)]; exact hcw) (fun cw xsw hcw => by rw [upd_ne (at_ne ew hcw exo_tup), upd_ne (ne_of_none hcw hndw)]; exact hcw)
/-- a further field -/
theorem ost_more (SF : StoreFacts B bmB "object.__setattr__" "object") (T : OexB X.K C newId bmB) (I : Inv X pins σ H s) (ew : H a = some (exo a C (some dxw))) (edw : H dxw = some (exd dxw fsw)) (hlw : fsw.length ≤ 900) (hnow : PySem.W.findIn X.K (.ref C) f = some none) (ryw : L2.RelV y u)
    (hw : ∀ s', Inv X pins σ (upd H dxw (exd dxw ((f, y) :: fsw))) s' → Q () s') : wpAny (model X.prog X.w) A (setAttr (.ref a) f u) Q E s := by
  obtain ⟨nmw, qw, N, bsw, bmw, snw, subw, abw, colw, ddw, k0w, k1w, k2w, k3w, k5w, hCw, hbmw⟩ := T.cls
  have hclw : PySem.W.clsIn X.K C = some { name := nmw, bases := bsw, mro := .ref C :: bmw, ns := N, qualname := qw, hasDict := true, slotNames := snw, subclasses := subw, abstract := abw, collection := colw, hasDel := false } := by unfold PySem.W.clsIn; rw [hCw] <;> rfl
  obtain ⟨t1w, how⟩ := exo_at I.hok ew
  obtain ⟨mAw, keeps_, relw⟩ := exd_at I.hok edw
  have hww := within_of relw
  obtain ⟨heap, gw, dw, tw, osw⟩ := s
  obtain ⟨oDw, _, _, hoDw, _, _⟩ := keeps_.count hww
  refine PySem.W.set_plain I.kIn (ox := { cls := .ref C, dict := some dxw, data := .fields #[.ref t1w, .none, .none, .none, .bool false, .none] }) (od := some oDw) ⟨how, rfl, rfl, hoDw⟩ T.sets ?_
  refine osa_more SF I.kIn how keeps_ hww (by rw [List.length_map]; omega) hclw T.over rfl hnow (fun h'w tk'w kw hnw => ?_)
  have hdw : ∃ ow, h'w.get? dxw = some ow := by
    obtain ⟨ow, _, _, e'w, _⟩ := hnw
    exact ⟨ow, e'w⟩
  exact hw _ (I.write (t' := tk'w) (x := dxw) (e := dxw) (o := exd dxw ((f, y) :: fsw)) (by rw [edw]; exact True.intro) (.inl rfl) kw hdw (exd_ok hnw (relO_put ryw relw)))
end
/-- self.f = e -/
def tOstB (K : PySem.W.Frag) (newId : String) (bmB : List Value) (f : Str) (to te : TE) : TS := fun D σ H => te σ H fun y H1 => to σ H1 fun x H2 => ∃ a C : Addr, x = .ref a ∧ OexB K C newId bmB ∧ PySem.W.findIn K (.ref C) f = some none ∧
  ((H2 a = some (exo a C none) ∧ ∀ d, H2 d = none → d ≠ a → D.nx σ (upd (upd H2 d (exd d [(f, y)])) a (exo a C (some d)))) ∨
    ∃ (d : Addr) (rs : List (Str × V)), H2 a = some (exo a C (some d)) ∧ H2 d = some (exd d rs) ∧ rs.length ≤ 900 ∧ D.nx σ (upd H2 d (exd d ((f, y) :: rs))))
section
variable {X : Cx} {o e : Expr} {to te : TE} {f : Str} {p' pos : Pos} {B newId : String} {bmB : List Value}
theorem ps_ostB (SF : StoreFacts B bmB "object.__setattr__" "object") (how : PE X o to) (hew : PE X e te) (hsw : swapsWith e (some (.Attribute o f p')) pos.line X.env = pure false := by rfl) : PS X (.Assign [.Attribute o f p'] e pos) (tOstB X.K newId bmB f to te) := by
  refine ⟨fun pins sw σ H D I hw => ?_⟩
  refine plainObj_wpAny_Assign_Attribute (thn (hew.run pins sw σ H _ I hw) fun vw s1w ⟨yw, H1, I1, r1w, q1w⟩ => thn (how.run pins s1w σ H1 _ I1 q1w) fun uw s2w ⟨xw, H2, I2, r2w, aw, C, exw, T, hnow, qw⟩ => ?_) hsw
  subst exw
  obtain rfl : uw = Value.ref aw := r2w
  rcases qw with ⟨ea, qw⟩ | ⟨dxw, fs, ea, ed, hl, qw⟩
  · exact ost_first SF T I2 ea hnow r1w fun dxw s'w nw new J => ⟨σ, _, J, qw dxw nw new⟩
  · exact ost_more SF T I2 ea ed hl hnow r1w fun s'w J => ⟨σ, _, J, qw⟩
end
/-! ### super().__init__(..) -/
section
variable {X : Cx} {pins : List (Addr × Obj)} {σ : L2.St} {H : Hp} {s : Shared} {a C u : Addr} {E : Value → Shared → Prop} {A : Around} {B newId i : String} {bmB : List Value}
/-- the bound __init__ called: nothing of it is told -/
theorem sup_call {usw : List Value} {Q : Value → Shared → Prop} (FB : ExcBaseFacts B newId i bmB) (T : OexB X.K C newId bmB) (I : Inv X ((u, PySem.W.kxs_mw i a) :: pins) σ H sw) (ew : H a = some (exo a C none)) (hlw : usw.length ≤ sizeLine) (hw : ∀ s', Inv X pins σ H s' → Q .none s') :
    wpAny (model X.prog X.w) A (call (.ref u) usw) Q E sw := by
  obtain ⟨nmw, qw, N, bsw, bmw, snw, subw, abw, colw, ddw, k0w, k1w, k2w, k3w, k5w, hCw, hbmw⟩ := T.cls
  obtain ⟨t1w, how⟩ := exo_at I.hok ew
  have huw := (I.pin (u, PySem.W.kxs_mw i a) (List.mem_append_right _ List.mem_cons_self)).1
  have I0 : Inv X pins σ H sw := I.pins_of fun pw heap => I.pin pw (List.mem_append_right _ (List.mem_cons_of_mem _ heap))
  have finw : ∀ h'w, (∀ b ow, b ≠ a → sw.heap.get? b = some ow → h'w.get? b = some ow) → (∃ t2w : Addr, h'w.get? a = some ({ cls := .ref C, dict := none, data := .fields #[.ref t2w, .none, .none, .none, .bool false, .none] } : Obj)) → Q .none { sw with heap := h'w } := fun h'w kw ⟨t2w, stands⟩ => by
    have J := I0.write (t' := sw.toks) (x := a) (e := a) (o := exo a C none) (h' := h'w) (by rw [ew]; exact True.intro) (.inl rfl) kw ⟨_, stands⟩ (exo_ok stands)
    have euw : upd H a (exo a C none) = H := by
      funext b
      by_cases hb : b = a
      · rw [hb, upd_same, ew]
      · rw [upd_ne hb]
    rw [euw] at J
    exact hw _ J
  have hCsw := I.kIn _ _ hCw
  obtain ⟨hasDict_, gw, dw, tkw, osw⟩ := sw
  refine wpAny_call ?_
  refine codeAny_of_tree ?_
  show wpAny _ A.in1 (callAny (.ref u) ⟨usw, []⟩) _ _ _
  simp only [callAny]
  refine wpAny_bind (wpAny_load huw ?_)
  simp only [PySem.W.kxs_mw, show (Value.type "method-wrapper" == Value.type "method" || Value.type "method-wrapper" == Value.type "builtin_function_or_method" || Value.type "method-wrapper" == Value.type "method-wrapper") = true by decide, if_true]
  refine (PySem.W.KFB.if_so (by decide +kernel) ?_)
  refine wpAny_bind (PySem.W.check_bound_init FB.toExcCallFacts hCsw how rfl ?_)
  refine wpAny_bind (wpAny_pure (wpAny_pure ⟨plainId_quiet FB.init.plain _, codeAny_builtin FB.initEntry ?_⟩))
  exact PySem.W.exc_init_tree (cls := .ref C) (t0 := t1w) (dv := none) (c2 := .none) (c3 := .none) (b4 := .bool false) how hlw fun h'w kw e'w _ => finw h'w kw ⟨_, e'w⟩
/-- what super() finds, of a def in the class at C -/
structure SupK (X : Cx) (C : Addr) (i : String) (B : String) (fd : FuncData) (ar : Arg) : Prop where
  kf : PySem.W.KxsFacts B i
  sup : PySem.W.ks_superIn X.K C C "__init__" = some (some (.builtin i))
  isB : PySem.W.subIn X.K (.ref C) (.type B) = some true
  self : PySem.W.mroIn X.K C (.ref C) = some true
  any : PySem.W.nsIn X.K cStatics "thirdparty.any" = some none
  mg : X.mg "super" = none
  fn : ∃ (f : Addr) (oc : Value) (od : Option Addr) (osl : Array (Option Value)), X.env.func = some f ∧ X.K.lookup f = some ⟨oc, od, .func fd, osl⟩
  first : (fd.params.posonlyargs ++ fd.params.args).head? = some ar
  code : ∃ (cda : Addr) (ccl : Value) (cdd : Option Addr) (vs : Array Value) (ccs : Array (Option Value)) (file : Str) (tf : Tok), X.env.code = .ref cda ∧ X.K.lookup cda = some ⟨ccl, cdd, .fields vs, ccs⟩ ∧ vs[2]? = some (.str file tf) ∧ ((X.prog.main.file : Str) == file) = true
  top : (X.prog.main.scope.names.lookup ("super" : Str)).isSome = false
  cell : ∃ (cc : Addr) (cl : Value) (cld : Option Addr) (csl : Array (Option Value)), X.env.cells.lookup ("__class__" : Str) = some cc ∧ X.K.lookup cc = some ⟨cl, cld, .cell (some (.ref C)), csl⟩
  ks : X.env.kindOf "super" = some .globalImplicit
  kc : X.env.kindOf "__class__" = some .free
  ka : X.env.kindOf ar.arg = some .local
  at0 : X.N[0]? = some ar.arg
  vis : Vis X.env.scope ar.arg
theorem sup_base {fdw : FuncData} {arw : Arg} {body : List Stmt} {p0w p1w : Pos} {whole : Sem Value} {Q : Value → Shared → Prop} (S : SupK X C i B fdw arw) (T : OexB X.K C newId bmB) (I : Inv X pins σ H sw) (hwσ : σ[0]? = some (some (.ref aw))) (ew : H aw = some (exo aw C none))
    (hw : ∀ sow h'w, h'w.get? sow = some (PySem.W.ks_superObj C aw C) → H sow = none → Inv X pins σ H { sw with heap := h'w } → Q (.ref sow) { sw with heap := h'w }) :
    PySem.wpAt (model X.prog X.w) X.A (.func body X.env) (attributeBase (.Call (.Name "super" p0w) [] [] p1w) "__init__" X.env whole) Q E sw := by
  obtain ⟨fw, ocw, odw, oslw, hfuw, hfw⟩ := S.fn
  obtain ⟨cdaw, cclw, cddw, vsw, ccsw, filew, tfw, hcow, hcodew, hvsw, hfilew⟩ := S.code
  obtain ⟨ccw, clw, cldw, cslw, hccw, hcellw⟩ := S.cell
  obtain ⟨t1w, how⟩ := exo_at I.hok ew
  obtain ⟨mw, keeps_, locw⟩ := I.loc
  obtain ⟨nmw, qw, N, bsw, bmw, snw, subw, abw, colw, ddw, k0w, k1w, k2w, k3w, k5w, hCw, hbmw⟩ := T.cls
  obtain ⟨v0w, rvw, lkw⟩ := locw 0 arw.arg (.ref aw) S.at0 hwσ S.vis
  have hvw : mw arw.arg = some (.ref aw) := by
    cases rvw
    rcases lkw with ⟨_, over⟩ | ⟨hk, _⟩
    · exact over
    · rw [S.ka] at hk
      rcases hk with zw | zw <;> cases zw
  have XK := I.kIn
  refine ks_wpAt_super_base (env := X.env) S.ks S.kc (by decide) hfuw (XK _ _ hfw) rfl S.first hcow (XK _ _ hcodew) rfl hvsw hfilew S.top ?_
  obtain ⟨mbw, b1w, b2w⟩ := I.mod.blt
  refine PySem.W.ks_loadName_global I.ok.kind S.ks (Calls.loadGlobal_builtin (by rw [I.ok.glob]; exact I.mod.glob.keeps I.bk) S.mg (by rw [I.ok.blt]; exact b1w.keeps I.bk) ((b2w _ (by decide)).trans (by decide +kernel : bootBuiltins "super" = some (.type "super"))) ⟨rfl, ?_⟩)
  refine wpAny_loadName_free I.ok.kind S.kc hccw ⟨_, XK _ _ hcellw, rfl⟩ ?_
  refine wpAny_loadName_local I.ok.kind S.ka keeps_ hvw ?_
  refine ks_wpAny_isType_cls (XK _ _ hCw) rfl ⟨rfl, ?_⟩
  obtain ⟨hasDict_, gw, dw, tkw, osw⟩ := sw
  refine ks_wpAny_call_super (XK _ _ hCw) rfl how rfl (fun cw zw => by cases zw) (PySem.W.looks_mroIn XK S.self) (fun h'w e'w kw => ?_)
  exact hw _ _ e'w (I.hok.fresh (Nat.le_refl _)) (I.kept (t' := tkw) kw)
theorem sup_row {fdw : FuncData} {arw : Arg} {body : List Stmt} {p0w p1w apos pos spos : Pos} {arg : Expr} {es : List Expr} {taw : TA} {plw : Sem Bool} {Qn : Hp → Prop} (FB : ExcBaseFacts B newId i bmB) (S : SupK X C i B fdw arw) (T : OexB X.K C newId bmB) (I : Inv X pins σ H sw) (hwσ : σ[0]? = some (some (.ref aw))) (ew : H aw = some (exo aw C none))
    (unfound : PA X (arg :: es) taw) (go : taw σ H fun vsw H1 => vsw.length ≤ 1000 ∧ H1 aw = some (exo aw C none) ∧ Qn H1)
    (hcw : eval (.Call (.Attribute (.Call (.Name "super" p0w) [] [] p1w) "__init__" apos) (arg :: es) [] pos) X.env = (do
      let ov ← attributeBase (.Call (.Name "super" p0w) [] [] p1w) "__init__" X.env (eval (.Call (.Name "super" p0w) [] [] p1w) X.env)
      standAt apos.atName
      let (fw, first) ← holding [ov] (getMethod ov "__init__" plw)
      callWith pos fw first (backTo pos (starEach (arg :: es) X.env)) []) := by rfl)
    (hew : starEach (arg :: es) X.env = (false, eval arg X.env) :: starEach es X.env := by rfl) (hplw : (backTo pos (starEach es X.env)).any (·.1) = false := by rfl)
    (hsw : swapsWith (.Call (.Attribute (.Call (.Name "super" p0w) [] [] p1w) "__init__" apos) (arg :: es) [] pos) none spos.line X.env = pure false := by rfl) :
    PySem.wpAt (model X.prog X.w) X.A (.func body X.env) (exec (.Expr (.Call (.Attribute (.Call (.Name "super" p0w) [] [] p1w) "__init__" apos) (arg :: es) [] pos) spos) X.env) (fun fw s'w => fw = .next ∧ ∃ H', Inv X pins σ H' s'w ∧ Qn H') X.xe sw := by
  refine ks_wpAt_Expr_any (ks_wpAt_MethodCall (pl := plw) (sup_base S T I hwσ ew fun sow h'w hsow nsow I1 => ?_) hcw) I.quiet hsw
  obtain ⟨nmw, qw, N, bsw, bmw, snw, subw, abw, colw, ddw, k0w, k1w, k2w, k3w, k5w, hCw, hbmw⟩ := T.cls
  obtain ⟨t1w, how⟩ := exo_at I1.hok ew
  have XK := I1.kIn
  have hclw : PySem.W.clsIn X.K C = some { name := nmw, bases := bsw, mro := .ref C :: bmw, ns := N, qualname := qw, hasDict := true, slotNames := snw, subclasses := subw, abstract := abw, collection := colw, hasDel := false } := by unfold PySem.W.clsIn; rw [hCw] <;> rfl
  have over := S.sup
  unfold PySem.W.ks_superIn at over
  rw [hclw] at over
  have IA : PySem.W.InstAt h'w aw { cls := .ref C, dict := none, data := .fields #[.ref t1w, .none, .none, .none, .bool false, .none] } C none := ⟨how, rfl, rfl, trivial⟩
  have hIw : PySem.W.Looks (model X.prog X.w) h'w (isInstance (.ref aw) (.type B)) true := IA.type.andThen (PySem.W.looks_subIn XK S.isB)
  have hxCw : aw ≠ C := PySem.W.ks_ne XK IA hclw
  obtain ⟨hasDict_, gw, dw, tkw, osw⟩ := sw
  refine PySem.W.kxs_getMethod S.kf hsow (PySem.W.looks_opaque XK S.any) (l₀ := .ref C :: bmw) (fun A Q E sw kw qw => wpAny_bind ((PySem.W.looks_clsIn XK hclw) A _ E sw kw (wpAny_pure qw))) rfl XK over hIw hxCw (by decide) ?_
  have huw : (h'w.push (PySem.W.kxs_mw i aw)).get? h'w.objs.size = some (PySem.W.kxs_mw i aw) := Heap.get?_push_size _ rfl
  have fuw := I1.fpOk (b := h'w.objs.size) (Nat.le_refl _) (I1.hok.fresh (Nat.le_refl _))
  have I2 : Inv X pins σ H ⟨h'w.push (PySem.W.kxs_mw i aw), gw, dw, tkw + 1, osw⟩ := I1.kept (t' := tkw + 1) fun bw ow zw => Heap.get?_push_of_some _ zw
  have I3 : Inv X ((h'w.objs.size, PySem.W.kxs_mw i aw) :: pins) σ H ⟨h'w.push (PySem.W.kxs_mw i aw), gw, dw, tkw + 1, osw⟩ := I2.pins_of fun pw heap => by
    rcases List.mem_cons.mp heap with rfl | heap
    · exact ⟨huw, fuw.1, fuw.2.1, fuw.2.2.1, fun vw zw => by cases zw⟩
    · exact I2.pin pw (List.mem_append_right _ heap)
  show wpAny _ _ (callWith pos (.ref h'w.objs.size) [] (backTo pos (starEach (arg :: es) X.env)) []) _ _ _
  rw [hew]
  refine PySem.W.kxs_callWith (i := i) (x := aw) (by show (false || (backTo pos (starEach es X.env)).any (·.1)) = false; rw [hplw]; rfl) ?_
  refine Calls.evalArgs_plain ?_
  have hrw := unfound.run pos ((h'w.objs.size, PySem.W.kxs_mw i aw) :: pins) _ σ H _ I3 go
  rw [hew] at hrw
  refine thn hrw fun usw s1w ⟨vsw, H1, J, rvw, hlw, e1w, qnw⟩ => ⟨(J.pin (h'w.objs.size, PySem.W.kxs_mw i aw) (List.mem_append_right _ List.mem_cons_self)).1, ?_⟩
  refine sup_call FB T J e1w ?_ fun s'w J' => ⟨rfl, H1, J', qnw⟩
  show usw.length ≤ sizeLine
  rw [← Paired.length rvw, sizeLine_eq]
  omega
end
/-! ### a def whose only free name is __class__ -/
def cxS (CX : CXT) (P : Program) (w : World) (K : PySem.W.Frag) (mg : Str → Option Value) (base : Heap) (N : List Str) (qual : Str) (scope : Scope) (f cda cc : Addr) (A : Around) (outer : List Env) (s : Shared) (H : Hp) (E : XK) : Cx where
  prog := P
  w := w
  K := K
  mg := mg
  base := base
  A := A.deeper (PySem.W.ksEnv qual scope s.heap.objs.size f (.ref cda) cc)
  N := N
  s_0 := s
  H_0 := H
  env := PySem.W.ksEnv qual scope s.heap.objs.size f (.ref cda) cc
  outer := outer
  stack := PySem.W.ksEnv qual scope s.heap.objs.size f (.ref cda) cc :: outer
  ex := []
  calm := true
  fn := fun _ => false
  pn := []
  xe := fun e s' => wpAny (model P w) (A.deeper (PySem.W.ksEnv qual scope s.heap.objs.size f (.ref cda) cc)) (leaving (PySem.W.ksEnv qual scope s.heap.objs.size f (.ref cda) cc) e) (fun _ s'' => CX outer H s E e s'') (fun e' s'' => CX outer H s E e' s'') s'
structure ScopeS (N ps : List Str) (sc : Scope) : Prop where
  kind : sc.kind = .function
  co : sc.isCoroutine = false
  gen : sc.isGenerator = false
  nd : N.Nodup
  pre : N.take ps.length = ps
  par : ∀ p ∈ ps, sc.names.lookup p = some NameKind.local
  nocell : ∀ n ∈ sc.names, n.2 ≠ NameKind.cell
  free : ∀ n ∈ sc.names, n.2 = NameKind.free → n.1 = ("__class__" : Str)
theorem lookup_nd {β : Type} {k : Str} {v : β} : ∀ {l : List (Str × β)}, (l.map (·.1)).Nodup → (k, v) ∈ l → l.lookup k = some v
  | [], _, h => (List.not_mem_nil h).elim
  | (k', v') :: l, nd, h => by
    obtain ⟨out, nd2⟩ := List.nodup_cons.mp nd
    rw [List.lookup_cons]
    rcases List.mem_cons.mp h with here | e
    · cases here
      rw [beq_self_eq_true]
    · have ne : (k == k') = false := by
        rw [beq_eq_false_iff_ne]
        intro z
        subst z
        exact out (List.mem_map.mpr ⟨_, e, rfl⟩)
      rw [ne]
      exact lookup_nd nd2 e
theorem inv_startS {CX : CXT} {P : Program} {ww : World} {K : PySem.W.Frag} {mg : Str → Option Value} {base : Heap} {N psw : List Str} {qual : Str} {scope : Scope} {fw cdaw ccw C : Addr} {A : Around} {outerw : List Env} {sw : Shared} {H : Hp} {E : XK} {usw : List Value} {vsw : List V} {h1w : Heap} {tkw : Nat} {clw : Value} {cldw : Option Addr} {cslw : Array (Option Value)}
    (S : ScopeS N psw scope) (hdw : A.handled = none) (e0w : Env0 P ww K mg base A outerw sw H) (hlw : vsw.length = psw.length) (rw : Vals vsw usw) (hccw : K.lookup ccw = some ⟨clw, cldw, .cell (some (.ref C)), cslw⟩)
    (nsw : h1w.Ns sw.heap.objs.size (fun xw => (psw.zip usw).reverse.lookup xw)) (hkw : ∀ bw ow, sw.heap.get? bw = some ow → h1w.get? bw = some ow) :
    Inv (cxS CX P ww K mg base N qual scope fw cdaw ccw A outerw sw H E) [] (start N vsw) H { sw with heap := h1w, toks := tkw } := by
  have hplw : psw.length ≤ N.length := by have := congrArg List.length S.pre; rw [List.length_take] at this; omega
  have noAw : ∀ bw : Addr, bw ∉ (cxS CX P ww K mg base N qual scope fw cdaw ccw A outerw sw H E).ex := fun bw zw => absurd (show bw ∈ ([] : List Addr) from zw) (by simp)
  have hcbw := e0w.mod.kin _ _ hccw
  have hcsw := e0w.bs _ _ hcbw
  have cell1w : ∀ {xw : Str} {cw : Addr}, (cxS CX P ww K mg base N qual scope fw cdaw ccw A outerw sw H E).env.cells.lookup xw = some cw → xw = ("__class__" : Str) ∧ cw = ccw := fun {xw cw} hw => by
    have hw : ([(("__class__" : Str), ccw)] : List (Str × Addr)).lookup xw = some cw := hw
    rw [List.lookup_cons] at hw
    cases ew : xw == ("__class__" : Str) with
    | true => rw [ew] at hw; exact ⟨beq_iff_eq.mp ew, (Option.some.inj hw).symm⟩
    | false => rw [ew] at hw; cases hw
  refine ⟨⟨e0w.mod, S.kind, rfl, rfl, Nat.le_refl _, fun yw zw cw h1w h2w => ?_, fun yw hyw => ?_, fun yw cw zw hw => ?_, fun _ => hdw, Around.frames_deeper e0w.frames, .inr ⟨rfl, rfl⟩, fun bw zw => absurd zw (noAw bw), e0w.bs, e0w.bsz, fun bw _ _ => noAw bw, fun bw zw => absurd zw (noAw bw), e0w.funs, e0w.frf⟩,
    rfl, e0w.bare, Un.kept hkw, ⟨_, nsw, fun iw yw vw h1w h2w h3w => ?_⟩, fun yw cw hw => ?_, e0w.hok.fresh (Nat.le_refl _), fun yw cw hw => ?_, fun pw heap => absurd (show pw ∈ ([] : List (Addr × Obj)) from heap) (by simp), e0w.hok.kept hkw, ?_⟩
  · rw [(cell1w h1w).1, (cell1w h2w).1]
  · have hyw : scope.names.lookup yw = some .cell ∨ scope.names.lookup yw = some .free := hyw
    rcases hyw with hyw | hyw
    · exact absurd rfl (S.nocell _ (PySem.mem_of_lookup hyw))
    · rw [show yw = ("__class__" : Str) from S.free _ (PySem.mem_of_lookup hyw) rfl]
      exact ⟨ccw, show ([(("__class__" : Str), ccw)] : List (Str × Addr)).lookup ("__class__" : Str) = some ccw by rw [List.lookup_cons, beq_self_eq_true]⟩
  · cases zw
  · have hiw : iw < vsw.length := by
      unfold L2.start at h2w
      by_cases hiw : iw < vsw.length
      · exact hiw
      · rw [List.getElem?_append_right (by simpa using hiw)] at h2w
        rw [List.getElem?_replicate] at h2w
        split at h2w <;> cases h2w
    have unfound : vsw[iw]? = some vw := by
      unfold L2.start at h2w
      rw [List.getElem?_append_left (by simpa using hiw), List.getElem?_map] at h2w
      cases ew : vsw[iw]? with
      | none => rw [ew] at h2w; cases h2w
      | some a => rw [ew] at h2w; cases h2w; rfl
    obtain ⟨uw, huw, rvw⟩ := rw.get unfound
    have heap : psw[iw]? = some yw := by
      rw [← S.pre, List.getElem?_take_of_lt (by omega)]; exact h1w
    have ndPw : psw.Nodup := by rw [← S.pre]; exact S.nd.sublist (List.take_sublist _ _)
    have lvw := Paired.length rw
    refine ⟨uw, rvw, .inl ⟨S.par yw (List.mem_of_getElem? heap), ?_⟩⟩
    refine lookup_nd ?_ (List.mem_reverse.mpr (List.mem_of_getElem? (i := iw) ?_))
    · rw [List.map_reverse, List.map_fst_zip (by omega)]
      exact (List.reverse_perm psw).nodup_iff.mpr ndPw
    · exact (List.getElem?_zip_eq_some (z := (yw, uw))).mpr ⟨heap, huw⟩
  · rw [(cell1w hw).2]
    exact ⟨_, _, hkw _ _ hcsw.1, rfl⟩
  · rw [(cell1w hw).2]
    exact hcsw.2
  · unfold L2.start
    show _ = N.length
    rw [List.length_append, List.length_replicate, List.length_map]
    omega
/-- a def whose first row is super().__init__(..) -/
theorem fn_sup {CX : CXT} {P : Program} {ww : World} {K : PySem.W.Frag} {mg : Str → Option Value} {base : Heap} {kw : Nat} {fw cdaw ccw C : Addr} {name qual : Str} {params : Arguments} {body : List Stmt} {scope : Scope} {kVw docw pmw ctw ocw : Value} {anw odw : Option Addr} {oslw : Array (Option Value)} {N psw : List Str} {sp : Sp} {clw : Value} {cldw : Option Addr} {cslw : Array (Option Value)}
    (lkw : K.lookup fw = some ⟨ocw, odw, .func (PySem.W.ksFn name qual params body scope .none kVw docw pmw anw (.ref cdaw) ctw ccw), oslw⟩) (isClass : PySem.W.codeIn K (.ref cdaw) qual = true) (hccw : K.lookup ccw = some ⟨clw, cldw, .cell (some (.ref C)), cslw⟩) (S : ScopeS N psw scope)
    (many : ∀ vsw H Q E, sp vsw H Q E → vsw.length = psw.length)
    (run : ∀ (A : Around) (outerw : List Env) (sw : Shared) (H : Hp) (vsw : List V) (Q : VK) (E : XK), Room kw (A.deeper (PySem.W.ksEnv qual scope sw.heap.objs.size fw (.ref cdaw) ccw)) → sp vsw H Q E →
      ∀ s1, Inv (cxS CX P ww K mg base N qual scope fw cdaw ccw A outerw sw H E) [] (L2.start N vsw) H s1 →
        PySem.wpAt (model P ww) (A.deeper (PySem.W.ksEnv qual scope sw.heap.objs.size fw (.ref cdaw) ccw)) (.func body (PySem.W.ksEnv qual scope sw.heap.objs.size fw (.ref cdaw) ccw)) (execs body (PySem.W.ksEnv qual scope sw.heap.objs.size fw (.ref cdaw) ccw))
          (SP (cxS CX P ww K mg base N qual scope fw cdaw ccw A outerw sw H E) [] { nx := fun _ H' => Q .non H', rt := Q }) (cxS CX P ww K mg base N qual scope fw cdaw ccw A outerw sw H E).xe s1) :
    FnOk P ww K mg base CX (kw + 1) fw (PySem.W.ksFn name qual params body scope .none kVw docw pmw anw (.ref cdaw) ctw ccw) psw sp := by
  refine ⟨many, fun A outerw sw H argsw usw vsw Q E hrw e0w hbw rw hspw => ?_⟩
  have hlw := many _ _ _ _ hspw
  have KX : K.In sw.heap := e0w.mod.kin.keeps fun bw ow ew => (e0w.bs bw ow ew).1
  have limw : sw.heap.NoLimit := e0w.mod.nolimit.keeps fun bw ow ew => (e0w.bs bw ow ew).1
  refine ks_codeAny_call_defAt (fd := PySem.W.ksFn name qual params body scope .none kVw docw pmw anw (.ref cdaw) ctw ccw) (body := body) (binds := psw.zip usw) hrw.depth (KX _ _ lkw) rfl limw (PySem.W.codeRec_of KX isClass) rfl hbw S.nocell (fun ⟨nw, vw⟩ hyw => S.par nw (List.of_mem_zip hyw).1) (fun h1w nsw hkw => ?_) S.co S.gen S.kind
  have I := inv_startS (CX := CX) (P := P) (ww := ww) (mg := mg) (qual := qual) (fw := fw) (cdaw := cdaw) (E := E) (tkw := sw.toks + (psw.zip usw).length) S hrw.hd e0w hlw rw hccw nsw hkw
  refine ks_wpAt_mono (run A outerw sw H vsw Q E (hrw.deeper _) hspw _ I) (fun flw s'w hsw => ?_) fun ew s'w hsw => hsw
  have finw : ∀ {σ' : L2.St} {H' : Hp} {vw : V} {uw : Value}, Inv (cxS CX P ww K mg base N qual scope fw cdaw ccw A outerw sw H E) [] σ' H' s'w → L2.RelV vw uw → Q vw H' → CE outerw P ww H sw Q uw s'w :=
    fun {σ' H' vw uw} J rvw qw => ⟨vw, H', J.os, J.bare, J.base, J.hok, rvw, qw⟩
  cases flw with
  | ret uw =>
    obtain ⟨vw, σ', H', J, rvw, qw⟩ := hsw
    exact finw J rvw qw
  | next =>
    obtain ⟨σ', H', J, qw⟩ := hsw
    exact finw (vw := V.non) (uw := Value.none) J rfl qw
  | brk =>
    obtain ⟨_, _, _, qw⟩ := hsw
    exact False.elim qw
  | cont =>
    obtain ⟨_, _, _, qw⟩ := hsw
    exact False.elim qw
/-- a def of a class that has super() in it, as it stands behind the top -/
structure FunS (P : Program) (K : PySem.W.Frag) (x qual : Str) (st : Stmt) (f C : Addr) (fd : FuncData) : Prop where
  ex : ∃ (cda cc : Addr) (oc : Value) (od : Option Addr) (kV doc pm : Value) (an : Option Addr) (ct : Value) (osl : Array (Option Value)) (cl : Value) (cld : Option Addr) (csl : Array (Option Value)) (ccl : Value) (cdd : Option Addr) (ws : Array Value) (ccs : Array (Option Value)) (file : Str) (tf : Tok),
    fd = PySem.W.ksFn x qual (defArgs st) (defBody st) (defScope st) .none kV doc pm an (.ref cda) ct cc ∧ K.lookup f = some ⟨oc, od, .func fd, osl⟩ ∧ PySem.W.codeIn K (.ref cda) qual = true ∧ K.lookup cc = some ⟨cl, cld, .cell (some (.ref C)), csl⟩ ∧
    K.lookup cda = some ⟨ccl, cdd, .fields ws, ccs⟩ ∧ ws[2]? = some (.str file tf) ∧ ((P.main.file : Str) == file) = true
/-- what of the class super() wants -/
structure SupC (P : Program) (K : PySem.W.Frag) (mg : Str → Option Value) (C : Addr) (i B : String) : Prop where
  kf : PySem.W.KxsFacts B i
  sup : PySem.W.ks_superIn K C C "__init__" = some (some (.builtin i))
  isB : PySem.W.subIn K (.ref C) (.type B) = some true
  self : PySem.W.mroIn K C (.ref C) = some true
  any : PySem.W.nsIn K cStatics "thirdparty.any" = some none
  mg : mg "super" = none
  top : (P.main.scope.names.lookup ("super" : Str)).isSome = false
theorem fn_supr {CX : CXT} {P : Program} {w : World} {K : PySem.W.Frag} {mg : Str → Option Value} {base : Heap} {k : Nat} {f C : Addr} {x qual : Str} {st : Stmt} {fd : FuncData} {N ps : List Str} {sp : Sp} {B newId i : String} {bmB : List Value} {ar : Arg} {p0 p1 apos pos spos : Pos} {arg : Expr} {es : List Expr} {rest : List Stmt}
    (F : FunS P K x qual st f C fd) (FB : ExcBaseFacts B newId i bmB) (T : OexB K C newId bmB) (U : SupC P K mg C i B) (S : ScopeS N ps (defScope st))
    (hb : defBody st = .Expr (.Call (.Attribute (.Call (.Name "super" p0) [] [] p1) "__init__" apos) (arg :: es) [] pos) spos :: rest)
    (hp : ((defArgs st).posonlyargs ++ (defArgs st).args).head? = some ar) (hks : (defScope st).names.lookup ("super" : Str) = some .globalImplicit) (hkc : (defScope st).names.lookup ("__class__" : Str) = some .free) (hka : (defScope st).names.lookup ar.arg = some .local) (h0 : N[0]? = some ar.arg)
    (many : ∀ vs H Q E, sp vs H Q E → vs.length = ps.length)
    (run : ∀ (cda cc : Addr) (A : Around) (outer : List Env) (s : Shared) (H : Hp) (vs : List V) (Q : VK) (E : XK), Room k (A.deeper (PySem.W.ksEnv qual (defScope st) s.heap.objs.size f (.ref cda) cc)) → sp vs H Q E →
      ∃ (a : Addr) (ta : TA) (tr : TS), (L2.start N vs)[0]? = some (some (.ref a)) ∧ H a = some (exo a C none) ∧ PA (cxS CX P w K mg base N qual (defScope st) f cda cc A outer s H E) (arg :: es) ta ∧ PSs (cxS CX P w K mg base N qual (defScope st) f cda cc A outer s H E) rest tr ∧
        ta (L2.start N vs) H fun ws H1 => ws.length ≤ 1000 ∧ H1 a = some (exo a C none) ∧ tr { nx := fun _ H' => Q .non H', rt := Q } (L2.start N vs) H1)
    (hc : ∀ env, ∃ pl : Sem Bool, eval (.Call (.Attribute (.Call (.Name "super" p0) [] [] p1) "__init__" apos) (arg :: es) [] pos) env = (do
      let ov ← attributeBase (.Call (.Name "super" p0) [] [] p1) "__init__" env (eval (.Call (.Name "super" p0) [] [] p1) env)
      standAt apos.atName
      let (m, first) ← holding [ov] (getMethod ov "__init__" pl)
      callWith pos m first (backTo pos (starEach (arg :: es) env)) []) := by intro _; exact ⟨_, rfl⟩)
    (he : ∀ env, starEach (arg :: es) env = (false, eval arg env) :: starEach es env := by intro _; rfl) (hpl : ∀ env, (backTo pos (starEach es env)).any (·.1) = false := by intro _; rfl) :
    FnOk P w K mg base CX (k + 1) f fd ps sp := by
  obtain ⟨cda, cc, oc, od, kV, doc, pm, an, ct, osl, cl, cld, csl, ccl, cdd, ws, ccs, file, tf, rfl, lk, hcd, hcc, hcode, hws, hfile⟩ := F.ex
  refine fn_sup lk hcd hcc S many fun A outer s H vs Q E hr hsp s1 I => ?_
  obtain ⟨a, ta, tr, hσ, e, ha, hrest, hq⟩ := run cda cc A outer s H vs Q E hr hsp
  rw [hb]
  obtain ⟨pl, hc⟩ := hc (cxS CX P w K mg base N qual (defScope st) f cda cc A outer s H E).env
  refine ks_wpAt_execs_cons (ks_wpAt_mono (sup_row (X := cxS CX P w K mg base N qual (defScope st) f cda cc A outer s H E) (arw := ar) (Qn := fun H1 => tr { nx := fun _ H' => Q .non H', rt := Q } (L2.start N vs) H1) FB
    { kf := U.kf, sup := U.sup, isB := U.isB, self := U.self, any := U.any, mg := U.mg, fn := ⟨f, oc, od, osl, rfl, lk⟩, first := hp, code := ⟨cda, ccl, cdd, ws, ccs, file, tf, rfl, hcode, hws, hfile⟩, top := U.top, cell := ⟨cc, cl, cld, csl, rfl, hcc⟩, ks := hks, kc := hkc, ka := hka, at0 := h0, vis := .inl hka }
    T I hσ e ha hq hc (he _) (hpl _) rfl) (fun fl s' hs => ?_) fun _ _ z => z)
  obtain ⟨rfl, H', J, q⟩ := hs
  exact PySem.wpAt_of_wpAny (hrest.run [] s' _ H' _ J q)
section
variable {X : Cx} {e : Expr} {es : List Expr} {ta : TA} {p pos : Pos}
theorem pmk_oexB {CX : CXT} {xw : Str} {C fIw : Addr} {kw : Nat} {fdw : FuncData} {psw : List Str} {sp : Sp} {dsw : List Value} {dvsw : List V} {B newIdw initIdw : String} {bmBw : List Value} (FB : ExcBaseFacts B newIdw initIdw bmBw) (T : OexB X.K C newIdw bmBw) (iCw : PySem.W.findIn X.K (.ref C) "__init__" = some (some (.ref fIw))) (tIw : PySem.W.typeIn X.K (.ref fIw) = some (.type "function"))
    (F1 : FnOk X.prog X.w X.K X.mg X.base CX kw fIw fdw psw sp) (hrw : Room (kw + 1) X.A) (hbw : Binds X.K fdw psw dsw) (hdw : Vals dvsw dsw) (stands : Passes CX X (fun _ _ _ => False)) (hgw : Gl X xw) (over : X.mg xw = some (.ref C)) (unfound : PA X (ew :: es) ta)
    (hdbw : (xw == ("__debug__" : Str)) = false := by decide) (hew : starEach (ew :: es) X.env = (false, eval ew X.env) :: starEach es X.env := by rfl) (hplw : (backTo pos (starEach es X.env)).any (·.1) = false := by rfl) :
    PMk X (.Call (.Name xw p) (ew :: es) [] pos) (tMkO C sp dvsw ta) := by
  intro pins s σ H Q I h
  obtain ⟨nmw, qw, N, bsw, bmw, snw, subw, abw, colw, ddw, k0w, k1w, k2w, k3w, k5w, hCw, hbmw⟩ := T.cls
  refine wpAny_Call_Name_kw (ld_glob I hgw over ?_ hdbw)
  refine PySem.W.callWith_K (h₀ := X.base) I.ok.mod.kin T.kept (thn (unfound.run pos pins s σ H _ I h) fun usw s1w ⟨vsw, H1, I1, r1w, hzw, q1w⟩ => ⟨I1.kIn, ?_⟩) hew hplw
  show wpAny _ _ (call (.ref C) usw) _ _ _
  obtain ⟨heap, gw, drw, tkw, osw⟩ := s1w
  have hszw : heap.objs.size ≤ heap.objs.size + 1 := Nat.le_succ _
  have hnw : H1 (heap.objs.size + 1) = none := I1.hok.fresh hszw
  have go := q1w (heap.objs.size + 1) hnw
  have kkw : ∀ bw ow, heap.get? bw = some ow → ((heap.push (PySem.W.kdv_tup usw)).push (PySem.HandSPX.excO C heap.objs.size)).get? bw = some ow := fun bw ow ew => Heap.get?_push_of_some _ (Heap.get?_push_of_some _ ew)
  have hgetw : ((heap.push (PySem.W.kdv_tup usw)).push (PySem.HandSPX.excO C heap.objs.size)).get? (heap.objs.size + 1) = some (PySem.HandSPX.excO C heap.objs.size) := by heap_get
  have I2 : Inv X pins σ (upd H1 (heap.objs.size + 1) (exo (heap.objs.size + 1) C none)) ⟨(heap.push (PySem.W.kdv_tup usw)).push (PySem.HandSPX.excO C heap.objs.size), gw, drw, tkw, osw⟩ :=
    I1.laid (t' := tkw) (a := heap.objs.size + 1) (o := exo (heap.objs.size + 1) C none) (h' := (heap.push (PySem.W.kdv_tup usw)).push (PySem.HandSPX.excO C heap.objs.size)) kkw hszw (exo_ok hgetw)
  have r2w : Vals (V.ref (heap.objs.size + 1) :: (vsw ++ dvsw)) (Value.ref (heap.objs.size + 1) :: (usw ++ dsw)) := .cons rfl (r1w.append hdw)
  have hlw : (Value.ref (heap.objs.size + 1) :: usw ++ dsw).length = psw.length := by
    have ew := r2w.length
    rw [F1.len _ _ _ _ go] at ew
    exact ew.symm
  have husw : usw.length ≤ sizeLine := by
    rw [← Paired.length r1w, sizeLine_eq]
    omega
  refine wpAny_call (PySem.HandSPX.call_own FB (fun Y => PySem.W.excTail_contains Y bmw hbmw) (I1.kIn _ _ hCw) (PySem.W.looks_findIn I1.kIn iCw) (fun selfw => PySem.W.bind_fn I1.kIn selfw tIw) husw
    (codeAny_mono (F1.run _ X.stack _ _ ⟨Value.ref (heap.objs.size + 1) :: usw, []⟩ (Value.ref (heap.objs.size + 1) :: (usw ++ dsw)) _ _ (fun _ _ _ => False) (hrw.make C usw []) (I2.env0.make C usw []) (hbw _ (Value.ref (heap.objs.size + 1) :: usw) I2.kIn hlw) r2w go) fun rw s'w hq'w => ?_))
  cases rw with
  | error er => exact stands pins σ _ _ er s'w I2 hq'w
  | ok fl =>
    cases fl with
    | ret u =>
      obtain ⟨vw, H2, os2w, bare2w, un2w, hok2w, rvw, evw, dw, fsw, eaw, edw, hd1w, q2w⟩ := hq'w
      subst evw
      obtain ⟨h2w, g2w, d2w, t2w, os'w⟩ := s'w
      exact ⟨rvw, mk_end (raises_own T.excs T.kind) I1 hszw kkw un2w hok2w os2w bare2w eaw edw hd1w q2w⟩
    | next => exact False.elim hq'w
    | brk => exact False.elim hq'w
    | cont => exact False.elim hq'w
end
end RSup

/-! An exception that stays in a variable behind its except suite. -/
namespace Pot
open PySem PySem.Spec PyProof.Rows L2
/-- an exception of the class cls that was caught and is kept, at a -/
def CauO (cls : Value) (d : Option Addr) (a : Addr) : HO := .ext fun h => ∃ (oe : Obj) (vs : Array Value), h.get? a = some oe ∧ Zc cls d oe ∧ oe.data = .fields vs
section
variable {X : Cx} {pins : List (Addr × Obj)} {σ : L2.St} {H : Hp} {s : Shared}
/-- an object that is in hand, and that wasn't there at the entry, is tracked from now on -/
theorem keepIt {a : Addr} {oe : Obj} {vs : Array Value} {cls : Value} {d : Option Addr} (I : Inv X pins σ H s) (e : s.heap.get? a = some oe) (hz : Zc cls d oe) (hd : oe.data = .fields vs) (na : H a = none)
    (nL : a ≠ X.env.locals) (n0 : X.s_0.heap.get? a = none) (np : ∀ p ∈ X.pn ++ pins, p.1 ≠ a) : Inv X pins σ (upd H a (CauO cls d a)) s := by
  have ne0 : ∀ b o, X.s_0.heap.get? b = some o → b ≠ a := fun b o q z => by rw [z, n0] at q; cases q
  have neS : ∀ b o, H b = some o → b ≠ a := fun b o q z => by rw [z, na] at q; cases q
  refine ⟨I.ok, I.os, I.bare, ⟨I.base.keep, I.base.slot, fun b o q n hb => ?_, I.base.there, fun b xs q => ?_, fun b o u q => ?_, fun b ps q => ?_⟩, I.loc, I.cell, ?_, fun x c q => ?_, fun p hp => ?_, fun b u q => ?_, I.len⟩
  · rw [upd_ne (ne0 b o q)]; exact I.base.free b o q n hb
  · have z := I.base.tups b xs q
    rw [upd_ne (neS b _ z)]; exact z
  · have z := I.base.frzs b o u q
    rw [upd_ne (neS b _ z)]; exact z
  · obtain ⟨m, z⟩ := I.base.tbls b ps q
    exact ⟨m, by rw [upd_ne (neS b _ z)]; exact z⟩
  · rw [upd_ne (Ne.symm nL)]; exact I.free
  · have nc : c ≠ a := fun z => by
      obtain ⟨v, o, ho, hc⟩ := I.cell x c q
      rw [z, e] at ho
      cases ho
      rw [hd] at hc
      cases hc
    rw [upd_ne nc]; exact I.freeC x c q
  · obtain ⟨p1, p2, p3⟩ := I.pin p hp
    exact ⟨p1, by rw [upd_ne (np p hp)]; exact p2, p3⟩
  · by_cases hb : b = a
    · subst hb
      rw [upd_same] at q
      cases q
      exact ⟨⟨oe, vs, e, hz, hd⟩, ⟨oe, e⟩, fun _ _ ⟨o, v, z, r⟩ k => ⟨o, v, k o z, r⟩⟩
    · rw [upd_ne hb] at q
      exact (I.hok b u q).stay (fun c v _ z => z) (fun c z => by rw [upd_ne (neS c _ z)]; exact z) fun c xs z => by rw [upd_ne (neS c _ z)]; exact z
end
/-- what 'except x as n: m = n' wishes of an exception of the body: slot i is n's, and what it's bound to is kept -/
def wKeep (K : PySem.W.Frag) (c : Value) (i : Nat) (ts : Addr → TS) (D : Ends) : WX := fun cls d σ H =>
  PySem.W.exmOne K cls c = some true ∧ ∀ a, H a = none → ts a { nx := fun σ' H' => D.nx (σ'.set i none) (upd H' a (CauO cls d a)), rt := fun _ _ => False, bk := fun _ _ => False, ct := fun _ _ => False } (σ.set i (some (.ref a))) H
section
variable {X : Cx} {x n : Str} {c : Value} {i : Nat} {body suite : List Stmt} {b₀ : Stmt} {np pos pos' : Pos} {tb : WX → TS} {ts : Addr → TS}
theorem ps_try_keep (hx : X.ex = []) (hs : X.stack = X.env :: X.outer) (hf : X.env.frame = some X.env.locals) (hN : X.N.Nodup) (hi : X.N[i]? = some n) (hln : X.env.kindOf n = some .local) (hc : Names X x c)
    (hb : ∀ (W : WX) (pn : List (Addr × Obj)) (xe : Value → Shared → Prop), Takes (X.tr pn xe) W → PassesOwn (model X.prog X.w) X.A X.env xe → PSs (X.tr pn xe) body (tb W))
    (hsu : ∀ (a : Addr) (pn : List (Addr × Obj)), PSs (X.suite a pn) (b₀ :: suite) (ts a)) :
    PS X (.Try body [.ExceptHandler (some (.Name x np)) (some n) (b₀ :: suite) pos'] [] [] pos) (fun D σ H => tb (wKeep X.K c i ts D) D σ H) := by
  refine ⟨fun pins s σ H D I h => ?_⟩
  have ok := I.ok
  have hfr : X.A.frames = some (X.env :: X.outer) := by rw [ok.frames, hs]
  refine wpAny_Try_except (wpAny_mono ((hb (wKeep X.K c i ts D) (X.pn ++ pins) _ (fun u s' xx => ?_) PassesOwn.looking).run [] s σ H D (I.toTry _) h) (fun f s1 hsp => ?_) (fun e s1 he => he))
  · obtain ⟨a, B, sI, pins', σ', H', cls, d, rfl, J', nb, up, sky, na, os, ag, hb1, hyes⟩ := xx
    have J : Inv X pins σ' H' sI := J'.ofTry ok
    rw [show X.stack = X.env :: X.outer from hs] at sky
    refine Sky.land Zc.steady hfr hf sky fun h3 fl3 up3 => ?_
    have J3 : Inv X pins σ' H' { s' with heap := h3 } := J.landed nb fl3.1 (up.trans up3) os ag
    obtain ⟨oe3, vs3, he3, hz3, hd3⟩ := fl3.there
    have nfr : a ∉ frs (X.env :: X.outer) := fun hm => by
      obtain ⟨_, o', e', hnf⟩ := fl3.2.2.1.mem hm
      rw [he3] at e'; cases e'
      exact hnf _ hd3
    have nL : a ≠ X.env.locals := fun z => nfr (List.mem_filterMap.mpr ⟨X.env, List.mem_cons_self, by rw [hf, z]⟩)
    have nF : a ∉ X.fs := fun hm => by
      obtain ⟨e, he, q⟩ := List.mem_filterMap.mp hm
      exact nfr (List.mem_filterMap.mpr ⟨e, List.mem_cons_of_mem _ he, q⟩)
    have nI : sI.heap.get? a = none := by
      cases q : sI.heap.get? a with
      | none => rfl
      | some o =>
        have z := nb a o q (by rw [hs]; exact nfr)
        rw [fl3.2.1] at z; cases z
    have n0 : X.s_0.heap.get? a = none := by
      cases q : X.s_0.heap.get? a with
      | none => rfl
      | some o =>
        obtain ⟨o', z⟩ := J.base.there a o q (by rw [hx]; exact fun z => nomatch z)
        rw [nI] at z; cases z
    have npin : ∀ p ∈ X.pn ++ pins, p.1 ≠ a := fun p hp z => by
      have q := (J.pin p hp).1
      rw [z, nI] at q; cases q
    have S3 := J3.suite he3 hd3 na nL nF
    refine wpAny_handleBy_cons (codeAny_handlers_test ?_) (by intro q; cases q)
    have LM := PySem.W.exm_one (M := model X.prog X.w) (J3.kIn) (fun A Q E s k q => wpAny_typeOf_ref (k _ _ he3) (by rw [hz3.1]; exact q)) hb1
    have test : ∀ {Q : Value → Shared → Prop} {E : Value → Shared → Prop}, Q c { s' with heap := h3 } → wpAny (model X.prog X.w) (X.A.mark (some (.ref a))) (eval (.Name x np) X.env) Q E { s' with heap := h3 } := fun {Q E} q => by
      obtain ⟨hg, hdbg, hm | ⟨hm, hv, hnn⟩⟩ := hc
      · exact ld_glob (X := X.suite a ((a, oe3) :: (X.pn ++ pins))) S3 hg hm q hdbg
      · exact ld_blt (X := X.suite a ((a, oe3) :: (X.pn ++ pins))) S3 hg hm hv q hnn hdbg
    refine test (LM.here (codeAny_handlers_suite_as (HandSPX.lands_againZ fl3 fun h4 fl4 up4 => ?_)))
    have J4 : Inv X pins σ' H' { s' with heap := h4 } := J.landed nb fl4.1 ((up.trans up3).trans up4) os ag
    obtain ⟨oe4, vs4, he4, hz4, hd4⟩ := fl4.there
    refine store_ok (X := X.suite a ((a, oe4) :: (X.pn ++ pins))) (v := .ref a) (J4.suite he4 hd4 na nL nF) hN hi (.inl hln) rfl (fun s5 S5 => ?_) (.inr hln)
    refine wpAny_mono ((hsu a ((a, oe4) :: (X.pn ++ pins))).run [] s5 _ H' _ S5 (hyes a na)) (fun f s6 hsp => ?_) (fun _ _ z => False.elim z)
    cases f with
    | next =>
      obtain ⟨σ6, H6, S6, q6⟩ := hsp
      obtain ⟨g1, g2, _⟩ := S6.pin (a, oe4) (List.mem_append.mpr (.inl List.mem_cons_self))
      exact gone_ok (keepIt (S6.unsuite ok) g1 hz4 hd4 g2 nL n0 npin) hN hi hln fun s7 J7 => ⟨_, _, J7, q6⟩
    | brk => obtain ⟨_, _, _, z⟩ := hsp; exact z.elim
    | cont => obtain ⟨_, _, _, z⟩ := hsp; exact z.elim
    | ret u => obtain ⟨_, _, _, _, _, z⟩ := hsp; exact z.elim
  · cases f with
    | next =>
      obtain ⟨σ', H', J', q⟩ := hsp
      exact wpAny_execs_nil ⟨σ', H', J'.ofTry ok, q⟩
    | brk =>
      obtain ⟨σ', H', J', q⟩ := hsp
      exact ⟨σ', H', J'.ofTry ok, q⟩
    | cont =>
      obtain ⟨σ', H', J', q⟩ := hsp
      exact ⟨σ', H', J'.ofTry ok, q⟩
    | ret u =>
      obtain ⟨v, σ', H', J', r, q⟩ := hsp
      exact ⟨v, σ', H', J'.ofTry ok, r, q⟩
end
/-- isinstance(e, c), isinstance(e, (c1, ..)) of a kept exception without a dict -/
def rIsK (K : PySem.W.Frag) : List V → Hp → VK → Prop := fun xs H Q => ∃ (a D : Addr) (c : V) (u : Value) (b : Bool), xs = [.ref a, c] ∧ H a = some (CauO (.ref D) none a) ∧ ExcC K D ∧ ClsV c u ∧ PySem.W.kitOne K (.ref D) u = some b ∧ Q (.bl b) H
def rIsKT (K : PySem.W.Frag) : List V → Hp → VK → Prop := fun xs H Q => ∃ (a D tp : Addr) (cs : List V) (us : List Value) (b : Bool), xs = [.ref a, .ref tp] ∧ H a = some (CauO (.ref D) none a) ∧ ExcC K D ∧ H tp = some (.tup cs) ∧ Paired ClsV cs us ∧ PySem.W.kitAny K (.ref D) us = some b ∧ Q (.bl b) H
theorem cau_inst {X : Cx} {pins : List (Addr × Obj)} {σ : L2.St} {H : Hp} {s : Shared} {a D : Addr} (I : Inv X pins σ H s) (h : H a = some (CauO (.ref D) none a)) : ∃ oe, PySem.W.InstAt s.heap a oe D none := by
  obtain ⟨⟨oe, vs, hget, hz, hv⟩, _, _⟩ := (show ObjOk X.prog X.w H s.heap a (CauO (.ref D) none a) from I.hok a _ h)
  obtain ⟨oc, od, oda, osl⟩ := oe
  obtain ⟨h1, h2⟩ := hz
  dsimp only at h1 h2 hv
  subst h1 h2 hv
  exact ⟨_, hget, rfl, rfl, trivial⟩
theorem kc_isK {X : Cx} {K : PySem.W.Frag} (hK : X.K = K := by rfl) : CallR X (.builtin "isinstance") (rIsK K) := by
  subst hK
  intro pins s σ H xs us Q I r h
  obtain ⟨a, D, c, u, b, rfl, hA, C, k, e, q⟩ := h
  obtain ⟨u1, u2, rfl, r1, r2⟩ := vals2 r
  have e2 := k.eq r2
  subst e2
  cases (show u1 = Value.ref a from r1)
  obtain ⟨oe, J⟩ := cau_inst I hA
  exact PySem.W.kia_one (PySem.W.handS_kitx_exc C.hg C.hk C.hs C.hd C.ha C.hn C.ht C.hm) I.kIn J e (fun z => nomatch z) fun tk => ⟨.bl b, H, I.tok tk, rfl, q⟩
theorem kc_isKT {X : Cx} {K : PySem.W.Frag} (hK : X.K = K := by rfl) : CallR X (.builtin "isinstance") (rIsKT K) := by
  subst hK
  intro pins s σ H xs us Q I r h
  obtain ⟨a, D, tp, cs, ws, b, rfl, hA, C, hT, k, e, q⟩ := h
  obtain ⟨u1, u2, rfl, r1, r2⟩ := vals2 r
  cases (show u2 = Value.ref tp from r2)
  cases (show u1 = Value.ref a from r1)
  obtain ⟨oe, J⟩ := cau_inst I hA
  obtain ⟨_, its, rv, o, h1, h2, n, h3⟩ := (show ObjOk X.prog X.w H s.heap tp (.tup cs) from I.hok tp _ hT)
  have e3 := ClsV.all k rv
  subst e3
  obtain ⟨oc, od, dt, sl⟩ := o
  simp only at h2 h3
  subst h2 h3
  exact PySem.W.kia_tup (PySem.W.handS_kitx_exc C.hg C.hk C.hs C.hd C.ha C.hn C.ht C.hm) I.kIn J h1 e (fun z => nomatch z) fun tk => ⟨.bl b, H, I.tok tk, rfl, q⟩
end Pot

/-! A kept exception that has a dict of its own: its class asked about, its fields read. -/
namespace Pot
open PySem PySem.Spec PyProof.Rows L2
section
variable {X : Cx} {pins : List (Addr × Obj)} {σ : L2.St} {H : Hp} {s : Shared} {a C dx : Addr} {fs : List (Str × V)}
theorem cauD_inst (I : Inv X pins σ H s) (h : H a = some (CauO (.ref C) (some dx) a)) (hd : H dx = some (.xd fs)) : ∃ oe od, PySem.W.InstAt s.heap a oe C (some od) ∧ s.heap.get? dx = some od := by
  obtain ⟨⟨oe, vs, hget, hz, hv⟩, _, _⟩ := (show ObjOk X.prog X.w H s.heap a (CauO (.ref C) (some dx) a) from I.hok a _ h)
  obtain ⟨mA, hns, hr⟩ := (show ObjOk X.prog X.w H s.heap dx (.xd fs) from I.hok dx _ hd)
  obtain ⟨od, ho, hl⟩ := lookIn_ns hns
  exact ⟨oe, od, ⟨hget, hz.1, by unfold PySem.W.notCls; rw [hv] <;> rfl, by rw [hz.2]; exact ho⟩, ho⟩
theorem exc_kit {K : PySem.W.Frag} {oe : Obj} {od : Option Obj} (E : ExcC K C) : PySem.W.KitX K (.ref a) (.ref C) (fun h => PySem.W.InstAt h a oe C od) := by
  obtain ⟨cd, hc, _⟩ := PySem.W.any_some E.hd
  exact PySem.W.kitx_exc (by rw [hc]; rfl) E.hg E.hk E.hs E.ha E.hn E.ht E.hm
end
/-- isinstance(e, c), isinstance(e, (c1, ..)) of a kept exception with a dict -/
def rIsD (K : PySem.W.Frag) : List V → Hp → VK → Prop := fun xs H Q => ∃ (a D dx : Addr) (fs : List (Str × V)) (c : V) (u : Value) (b : Bool), xs = [.ref a, c] ∧ H a = some (CauO (.ref D) (some dx) a) ∧ H dx = some (.xd fs) ∧ ExcC K D ∧ ClsV c u ∧ PySem.W.kitOne K (.ref D) u = some b ∧ Q (.bl b) H
def rIsDT (K : PySem.W.Frag) : List V → Hp → VK → Prop := fun xs H Q => ∃ (a D dx tp : Addr) (fs : List (Str × V)) (cs : List V) (us : List Value) (b : Bool), xs = [.ref a, .ref tp] ∧ H a = some (CauO (.ref D) (some dx) a) ∧ H dx = some (.xd fs) ∧ ExcC K D ∧ H tp = some (.tup cs) ∧ Paired ClsV cs us ∧ PySem.W.kitAny K (.ref D) us = some b ∧ Q (.bl b) H
theorem kc_isD {X : Cx} {K : PySem.W.Frag} (hK : X.K = K := by rfl) : CallR X (.builtin "isinstance") (rIsD K) := by
  subst hK
  intro pins s σ H xs us Q I r h
  obtain ⟨a, D, dx, fs, c, u, b, rfl, hA, hd, C, k, e, q⟩ := h
  obtain ⟨u1, u2, rfl, r1, r2⟩ := vals2 r
  have e2 := k.eq r2
  subst e2
  cases (show u1 = Value.ref a from r1)
  obtain ⟨oe, od, J, _⟩ := cauD_inst I hA hd
  exact PySem.W.kia_one (exc_kit C) I.kIn J e (fun z => nomatch z) fun tk => ⟨.bl b, H, I.tok tk, rfl, q⟩
theorem kc_isDT {X : Cx} {K : PySem.W.Frag} (hK : X.K = K := by rfl) : CallR X (.builtin "isinstance") (rIsDT K) := by
  subst hK
  intro pins s σ H xs us Q I r h
  obtain ⟨a, D, dx, tp, fs, cs, ws, b, rfl, hA, hd, C, hT, k, e, q⟩ := h
  obtain ⟨u1, u2, rfl, r1, r2⟩ := vals2 r
  cases (show u2 = Value.ref tp from r2)
  cases (show u1 = Value.ref a from r1)
  obtain ⟨oe, od, J, _⟩ := cauD_inst I hA hd
  obtain ⟨_, its, rv, o, h1, h2, n, h3⟩ := (show ObjOk X.prog X.w H s.heap tp (.tup cs) from I.hok tp _ hT)
  have e3 := ClsV.all k rv
  subst e3
  obtain ⟨oc, odd, dt, sl⟩ := o
  simp only at h2 h3
  subst h2 h3
  exact PySem.W.kia_tup (exc_kit C) I.kIn J h1 e (fun z => nomatch z) fun tk => ⟨.bl b, H, I.tok tk, rfl, q⟩
/-- e.f, e a kept exception of the class at C -/
def tKf (C : Addr) (f : Str) (te : TE) : TE := fun σ H Q => te σ H fun x H1 => ∃ (a dd : Addr) (fs : List (Str × V)) (v : V), x = .ref a ∧ H1 a = some (CauO (.ref C) (some dd) a) ∧ H1 dd = some (.xd fs) ∧ fs.lookup f = some v ∧ Q v H1
theorem pe_kf {X : Cx} {C : Addr} {e : Expr} {te : TE} {pos : Pos} {n : Str} (T : XfC X.K C) (hno : PySem.W.findIn X.K (.ref C) n = some none) (he : PE X e te) (hb : attributeBase e n X.env (eval e X.env) = eval e X.env := by rfl) :
    PE X (.Attribute e n pos) (tKf C n te) := by
  refine ⟨fun pins s σ H Q I h => attr_of hb (thn (he.run pins s σ H _ I h) fun u s1 hh => ?_)⟩
  obtain ⟨x, H1, I1, rx, a, dd, fs, v, ex, hA, hd, l, q⟩ := hh
  subst ex
  cases (show u = Value.ref a from rx)
  obtain ⟨⟨oe, vs, hget, hz, hv⟩, _, _⟩ := (show ObjOk X.prog X.w H1 s1.heap a (CauO (.ref C) (some dd) a) from I1.hok a _ hA)
  obtain ⟨mA, hns, hr⟩ := (show ObjOk X.prog X.w H1 s1.heap dd (.xd fs) from I1.hok dd _ hd)
  obtain ⟨od, ho, hl⟩ := lookIn_ns hns
  obtain ⟨w, hw, rw'⟩ := RelO.some_of (v := v) (o := mA n) (l ▸ hr n)
  have J : PySem.W.InstAt s1.heap a oe C (some od) := ⟨hget, hz.1, by unfold PySem.W.notCls; rw [hv] <;> rfl, by rw [hz.2]; exact ho⟩
  refine HandSPX.exc_get I1.kIn J T.ga T.gg T.exC (PySem.W.findObj_own T.hdC hno rfl ?_) (handed_of rw') ⟨v, H1, I1.tok _, rw', q⟩
  rw [hl, hw]
end Pot

/-! a method that may raise, what is raised being wished for at the caller's slots -/
namespace L2
open PySem PySem.Spec PyProof.Rows
/-- a method m of the class at C that may raise -/
structure OMetX (P : Program) (w : World) (K : PySem.W.Frag) (mg : Str → Option Value) (base : Heap) (k : Nat) (C : Addr) (m : Str) (sp : Sp) (dvs : List V) : Prop where
  parts : ∃ (g : Addr) (fd : FuncData) (ps : List Str) (ds : List Value), Cls K C ∧ Meth K C m g ∧ FnOk P w K mg base (L2.CX P w) k g fd ps sp ∧ Binds K fd ps ds ∧ Vals dvs ds
def tMethX (C : Addr) (m : Str) (sp : Sp) (dvs : List V) (E : L2.St → XK) (ta : TE) (t : TA) : TE := fun σ H Q => ta σ H fun x H1 => ∃ a dx fs, x = .ref a ∧ H1 a = some (.ins C dx fs) ∧ fs.lookup m = none ∧
  t σ H1 fun vs H2 => sp (x :: (vs ++ dvs)) H2 Q (E σ)
section
variable {X : Cx} {W : WX} {k j : Nat} {C : Addr} {m : Str} {sp : Sp} {dvs : List V} {p pos apos : Pos} {a o : Expr} {es : List Expr} {ta : TE} {t : TA}
theorem pe_omx {pl : Sem Bool} (c : OMetX X.prog X.w X.K X.mg X.base k C m sp dvs) (room : Room j X.A) (le : k ≤ j) (tk : Takes X W) (ho : PE X o ta) (args : PA X (a :: es) t)
    (star : starEach (a :: es) X.env = (false, eval a X.env) :: starEach es X.env := by rfl) (plain : (backTo pos (starEach es X.env)).any (·.1) = false := by rfl)
    (way : eval (.Call (.Attribute o m apos) (a :: es) [] pos) X.env = (do let ov ← eval o X.env; standAt apos.atName; let (g, first) ← holding [ov] (getMethod ov m pl); callWith pos g first (backTo pos (starEach (a :: es) X.env)) (backToKw pos (keywordEach [] X.env))) := by rfl) :
    PE X (.Call (.Attribute o m apos) (a :: es) [] pos) (tMethX C m sp dvs (WE W) ta t) := by
  obtain ⟨g, fd, ps, ds, hc, hm, F, b, v⟩ := c.parts
  refine ⟨fun pins s σ H Q I h => ?_⟩
  refine PySem.W.methodCall_KW (pl := pl) (thn (ho.run pins s σ H _ I h) fun u s1 ⟨x, H1, I1, rx, y, dx, fs, ex, ea, l, q⟩ => ?_) way
  subst ex
  obtain rfl : u = Value.ref y := rx
  refine getmeth_ok I1 ea hc hm l ?_
  refine PySem.W.callWith_K (first := [.ref y]) (h₀ := X.base) I.ok.mod.kin hm.kp (thn (args.run pos pins s1 σ H1 _ I1 q) fun us s2 ⟨vs, H2, I2, r, q2⟩ => ⟨I2.kIn, ?_⟩) star plain
  exact run_fnSD (us := .ref y :: us) (vs := .ref y :: vs) F (room.mono le) b v (passAt tk σ) I2 (.cons rfl r) q2
end
end L2

namespace Pot
open PySem PySem.Spec PyProof.Rows L2
/-! ### the least and the greatest of a list of numbers -/
section
variable {X : Cx} {K : PySem.W.Frag}
theorem kc_min (hc : X.calm = true := by rfl) (h : X.K = K := by rfl) : CallR X (.builtin "min") (rMin K) := h ▸ cr_min hc
theorem kc_max (hc : X.calm = true := by rfl) (h : X.K = K := by rfl) : CallR X (.builtin "max") (rMax K) := h ▸ cr_max hc
end
end Pot

namespace Pot
open PySem PySem.Spec PyProof.Rows L2
/-! ### sets of texts -/
def keyS (e : Int × Value) : Str := match e.2 with | .str k _ => k | _ => ""
def addS (ks : List Str) (k : Str) : List Str := if k ∈ ks then ks else k :: ks
/-- at a stands a set of just the texts ks, none twice -/
def SetS (P : Program) (w : World) (h : Heap) (a : Addr) (ks : List Str) : Prop := ∃ o es ep t,
  h.get? a = some o ∧ o.ExactSet ∧ o.data = .set es ep t ∧ (ElemsOf (strKind P w) es.toList ∧ (es.toList.map keyS).Perm ks ∧ ks.Nodup) ∧ es.size < scanBound ∧ t.fits es.size = true ∧ Ris t.place.toList ∧ (w.params.followText "set-order" = true ∨ t.led = true)
section
variable {P : Program} {w : World} {A : Around} {E : Value → Shared → Prop} {s : Shared} {a : Addr} {ks : List Str}
theorem SetS.at {h h' : Heap} (R : SetS P w h a ks) (k : ∀ o, h.get? a = some o → h'.get? a = some o) : SetS P w h' a ks := by
  obtain ⟨o, es, ep, t, ho, r⟩ := R
  exact ⟨o, es, ep, t, k o ho, r⟩
theorem str_is {e : Int × Value} {z : Str} (h : (∃ k, (strKind P w).is k e.2 = true ∧ e.1 = (strKind P w).hash k) ∧ e.2.scannable = true) : (strKind P w).is z e.2 = true ↔ keyS e = z := by
  obtain ⟨⟨k, h1, _⟩, _⟩ := h
  obtain ⟨t, h2⟩ := Value.isStrOf_shape h1
  unfold keyS
  rw [h2]
  constructor
  · intro h3
    exact (strKind P w).inj _ _ _ (strKind_is P w k t) h3
  · intro h3
    rw [← h3]
    exact strKind_is P w k t
theorem sets_tail {g : Bool → Sem Unit} (hg : ∀ (b : Bool) (z : Shared) (q : Unit → Shared → Prop), q () z → wpAny (model P w) A (g b) q E z)
    {o : Obj} {es : Array (Int × Value)} {ep : Nat} {t : SetTable} (ho : s.heap.get? a = some o) (hex : o.ExactSet) (hd : o.data = .set es ep t)
    {fs : Array (Int × Value)} {u : SetTable} (gg : ElemsOf (strKind P w) fs.toList ∧ (fs.toList.map keyS).Perm ks ∧ ks.Nodup)
    (hb : fs.size < scanBound) (hf : u.fits fs.size = true) (hr : Ris u.place.toList) (hl : w.params.followText "set-order" = true ∨ u.led = true) {was : Bool} {R : Option Bool → Shared → Prop}
    (hR : ∀ h', Heap.SameBut a s.heap h' → SetS P w h' a ks → R (some true) { s with heap := h' }) :
    wpAny (model P w) A (do
        storeSet a fs u
        if (!was && u.tooFull) = true then do
            g (relayAll u fs (SetTable.grown fs.size)).2.2
            storeSet a (relayAll u fs (SetTable.grown fs.size)).1 (relayAll u fs (SetTable.grown fs.size)).2.1
            pure (some true)
          else pure (some true)) R E s := by
  have o1 := store_at (es' := fs) (t' := u) ho hd
  have b1 := Heap.SameBut.update s.heap a (Obj.putSet fs u)
  refine wpAny_bind (wpAny_storeSet_of ho hd ?_ (fits_of_scanBound hb))
  by_cases hc : (!was && u.tooFull) = true
  · rw [if_pos hc]
    obtain ⟨p1, p2, p3, p4⟩ : _ ∧ _ ∧ _ ∧ _ := ⟨relayAll_perm u fs (SetTable.grown fs.size), relayAll_fits u fs (SetTable.grown fs.size), relayAll_ris u fs (SetTable.grown fs.size), relayAll_led u fs (SetTable.grown fs.size)⟩
    generalize relayAll u fs (SetTable.grown fs.size) = Y at p1 p2 p3 p4 ⊢
    obtain ⟨gs, v, x⟩ := Y
    have sz : gs.size = fs.size := by
      have := p1.length_eq
      simpa using this
    have hb2 : gs.size < scanBound := Nat.lt_of_le_of_lt (Nat.le_of_eq sz) hb
    refine wpAny_bind (hg _ _ _ (wpAny_bind (wpAny_storeSet_of o1 rfl ?_ (fits_of_scanBound hb2))))
    have o2 := store_at (es' := gs) (t' := v) o1 rfl
    refine wpAny_pure (hR _ (b1.trans (Heap.SameBut.update _ a _)) ⟨_, gs, _, v, o2, hex, rfl, ⟨fun e he => gg.1 e (p1.mem_iff.mp he), (p1.map keyS).trans gg.2.1, gg.2.2⟩, hb2, p2, p3, ?_⟩)
    rcases hl with z | z
    · exact .inl z
    · exact .inr (p4.trans z)
  · rw [if_neg hc]
    exact wpAny_pure (hR _ b1 ⟨_, fs, _, u, o1, hex, rfl, gg, hb, hf, hr, hl⟩)
theorem sets_add {k : Str} {tk : Tok} {Q : Bool → Shared → Prop} (R : SetS P w s.heap a ks) (room : ks.length + 1 < scanBound)
    (hQ : ∀ b h', Heap.SameBut a s.heap h' → SetS P w h' a (addS ks k) → Q b { s with heap := h' }) :
    wpAny (model P w) A (setAddHashed a (.str k tk) ((strKind P w).hash k)) Q E s := by
  obtain ⟨o, es, ep, t, ho, hex, hd, ⟨gel, gpm, gnd⟩, hb, hf, hr, hl⟩ := id R
  have isk : (strKind P w).is k (.str k tk) = true := strKind_is P w k tk
  have scn : (Value.str k tk).scannable = true := rfl
  unfold setAddHashed setAddHashedIn
  refine wpAny_holding (wpAny_bind (wpAny_setState_of ho hd hf ?_))
  dsimp only
  rw [byScan_of scn hb gel]
  simp only [↓reduceIte]
  unfold setAddByScan
  refine wpAny_bind (wpAny_bind (wpAny_rule (wpAny_bind (wpAny_setScan_of isk ho hd hf gel ?_))))
  cases hx : List.findIdx? (fun e => (strKind P w).is k e.2) es.toList with
  | some j =>
    dsimp only
    obtain ⟨hj, pj, _⟩ := List.findIdx?_eq_some_iff_getElem.mp hx
    have hm : k ∈ ks := gpm.mem_iff.mp (List.mem_map.mpr ⟨_, List.getElem_mem hj, (str_is (gel _ (List.getElem_mem hj))).mp pj⟩)
    refine wpAny_pure (wpAny_pure (hQ _ s.heap (Heap.SameBut.refl a s.heap) ?_))
    unfold addS
    rw [if_pos hm]
    exact R
  | none =>
    dsimp only
    have hn : k ∉ ks := fun z => by
      obtain ⟨e, he, q⟩ := List.mem_map.mp (gpm.mem_iff.mpr z)
      have c := List.findIdx?_eq_none_iff.mp hx e he
      rw [(str_is (gel e he)).mpr q] at c
      cases c
    obtain ⟨p1, p2, p3, p4⟩ : _ ∧ _ ∧ _ ∧ _ := ⟨layNew_perm t es ((strKind P w).hash k) (.str k tk), layNew_fits t es ((strKind P w).hash k) (.str k tk), layNew_ris t es ((strKind P w).hash k) (.str k tk) hr, layNew_led t es ((strKind P w).hash k) (.str k tk)⟩
    generalize layNew t es ((strKind P w).hash k) (.str k tk) = Y at p1 p2 p3 p4 ⊢
    obtain ⟨fs, u, was, gave⟩ := Y
    dsimp only at p1 p2 p3 p4 ⊢
    rw [Array.toList_push] at p1
    have pc := p1.trans (List.perm_append_singleton _ _)
    have eadd : addS ks k = k :: ks := if_neg hn
    have gg : ElemsOf (strKind P w) fs.toList ∧ (fs.toList.map keyS).Perm (addS ks k) ∧ (addS ks k).Nodup := by
      rw [eadd]
      refine ⟨fun e he => ?_, (pc.map keyS).trans (gpm.cons k), List.nodup_cons.mpr ⟨hn, gnd⟩⟩
      rcases List.mem_cons.mp (pc.mem_iff.mp he) with z | z
      · rw [z]; exact ⟨⟨k, isk, rfl⟩, scn⟩
      · exact gel e z
    have sz : fs.size = ks.length + 1 := by
      have h1 := gg.2.1.length_eq
      rw [eadd, List.length_map, Array.length_toList] at h1
      exact h1
    have hb1 : fs.size < scanBound := by rw [sz]; exact room
    have hled : w.params.followText "set-order" = true ∨ u.led = true := by
      rcases hl with z | z
      · exact .inl z
      · exact .inr (p4.trans z)
    have fin : ∀ h', Heap.SameBut a s.heap h' → SetS P w h' a (addS ks k) → Q true { s with heap := h' } := fun h' => hQ true h'
    refine wpAny_bind ?_
    have gw : ∀ (b : Bool) (z : Shared) (q : Unit → Shared → Prop), q () z → wpAny (model P w) A (match b with | true => rule "set.scan.the-table-gave-way" | false => pure ()) q E z := fun b z q hq => by
      cases b
      · exact wpAny_pure hq
      · exact wpAny_rule hq
    refine gw _ _ _ ?_
    split
    · refine wpAny_bind ?_
      rw [hashByValue_scannable 8 scn]
      refine wpAny_pure (sets_tail gw ho hex hd gg hb1 ?_ ?_ ?_ ?_)
      · first | (split <;> first | exact p2 | exact SetTable.fits_plain_off p2) | exact p2
      · first | (split <;> exact p3) | exact p3
      · first | (split <;> exact hled) | exact hled
      · intro h' sb r; dsimp only; exact wpAny_pure (fin h' sb r)
    · refine wpAny_bind (wpAny_pure ?_)
      simp only [↓reduceIte]
      refine sets_tail gw ho hex hd gg hb1 p2 p3 hled ?_
      intro h' sb r; dsimp only; exact wpAny_pure (fin h' sb r)
end
end Pot

namespace Pot
open PySem PySem.Spec PyProof.Rows L2
/-! ### the least of a list of rows; the greatest of whole numbers, or another thing where there is none -/
theorem reads_of {h : Heap} : ∀ {L : List (Value × V × PyData)}, (∀ t ∈ L, ∃ as, Reads h t.1 t.2.2 as) → ∃ as, ReadsAll h (L.map (·.1)) (L.map (·.2.2)) as
  | [], _ => ⟨_, .nil⟩
  | t :: L, H => by
    obtain ⟨as, r⟩ := H t List.mem_cons_self
    obtain ⟨bs, rs⟩ := reads_of fun x hx => H x (List.mem_cons_of_mem _ hx)
    exact ⟨_, .cons r rs⟩
section
variable {X : Cx} {K : PySem.W.Frag}
def rMinD (K : PySem.W.Frag) : List V → Hp → VK → Prop := fun vs H Q => ∃ (a : Addr) (xs : List V) (d : PyData) (ds : List PyData), vs = [V.ref a] ∧ SqL K H a xs ∧ DpAll K H xs (d :: ds) ∧ PySem.W.AlikeAll (d :: ds) ∧ PyData.depthAll (d :: ds) ≤ 60 ∧
  ∀ (v : V) (i : Nat), xs[i]? = some v → (d :: ds)[i]? = some (PySem.W.minD d ds) → Q v H
theorem cr_minD (hc : X.calm = true) (hu : X.A.units + 64 < cLine) : CallR X (.builtin "min") (rMinD X.K) := by
  intro pins s σ H vs0 us0 Q I r h
  obtain ⟨a, xs, d, ds, rfl, hs, da, al, dep, q⟩ := h
  obtain ⟨its, rv, hl, hz⟩ := I.list hs
  rw [Vals.ref1 r]
  obtain ⟨L, e1, e2, e3, all⟩ := each_reads I rv da
  obtain ⟨as, rd⟩ := reads_of (h := s.heap) fun t ht => Dp.reads I _ _ _ (all t ht).2 (all t ht).1
  rw [e1, e3] at rd
  have rd : ReadsAll s.heap its.toArray.toList (d :: ds) as := rd
  have hn : its.toArray.size = ds.length + 1 := PySem.W.readsAll_len rd
  have hh : X.A.handled = none := I.ok.hd hc
  refine PySem.call_min_walkH (PySem.W.iter_listW (A := X.A.in1) hh hl.isList fun s₂ e W st hfp hw hk => ?_)
  refine ⟨_, _, _, _, _, _, _, s.heap, _, rfl, W, st, hfp, by omega, hw, hk, PySem.W.cmpIn_lt (A := X.A.in1) rd al (by show X.A.units + 1 + _ < _; omega), fun v s' hP m => ?_⟩
  obtain ⟨h', tk, rfl, hk'⟩ := PySem.W.moved_old e rfl m
  have e4 : its.toArray.size - 1 = ds.length := by omega
  obtain ⟨b1, b2⟩ := PySem.W.argBest_fold PySem.W.dataLt PyData.none d ds ds.length (Nat.le_refl _)
  rw [List.take_length] at b2
  rw [e4] at hP
  generalize PySem.argBest (fun i j => PySem.W.dataLt ((d :: ds).getD i PyData.none) ((d :: ds).getD j PyData.none)) ds.length = i at hP b1 b2
  have hv : its[i]? = some v := by rw [List.getElem?_toArray] at hP; exact hP
  rw [← e1, List.getElem?_map] at hv
  obtain ⟨t, ht, rfl⟩ := Option.map_eq_some_iff.mp hv
  have tm := List.mem_of_getElem? ht
  refine ⟨t.2.1, H, I.kept hk', (all t tm).1, q t.2.1 i ?_ ?_⟩
  · rw [← e2, List.getElem?_map, ht]; rfl
  · have hi : i < (d :: ds).length := Nat.lt_succ_of_le b1
    rw [List.getD_eq_getElem?_getD, List.getElem?_eq_getElem hi] at b2
    rw [List.getElem?_eq_getElem hi]
    exact congrArg some b2
theorem kc_minD (hu : X.A.units + 64 < cLine) (hc : X.calm = true := by rfl) (h : X.K = K := by rfl) : CallR X (.builtin "min") (rMinD K) := h ▸ cr_minD hc hu
def rMaxO (K : PySem.W.Frag) : List V → List V → Hp → VK → Prop := fun vs zs H Q => ∃ (a : Addr) (ns : List Int) (m : Int), vs = [V.ref a] ∧ zs = [V.int m] ∧ SqL K H a (ns.map V.int) ∧ (ns = [] → Q (.int m) H) ∧ ∀ y ∈ ns, (∀ z ∈ ns, z ≤ y) → Q (.int y) H
theorem max_of : ∀ (ns : List Int) (n : Int), (ns.foldl max n ∈ n :: ns) ∧ ∀ z ∈ n :: ns, z ≤ ns.foldl max n
  | [], n => ⟨List.mem_cons_self, fun z hz => by rw [List.mem_singleton.mp hz]; exact Int.le_refl _⟩
  | k :: ns, n => by
    obtain ⟨h1, h2⟩ := max_of ns (max n k)
    rw [List.foldl_cons]
    refine ⟨?_, fun z hz => ?_⟩
    · rcases List.mem_cons.mp h1 with e | e
      · rw [e]
        by_cases c : n ≤ k
        · rw [show max n k = k by omega]; exact List.mem_cons_of_mem _ List.mem_cons_self
        · rw [show max n k = n by omega]; exact List.mem_cons_self
      · exact List.mem_cons_of_mem _ (List.mem_cons_of_mem _ e)
    · have hm := h2 (max n k) List.mem_cons_self
      rcases List.mem_cons.mp hz with rfl | hz
      · omega
      · rcases List.mem_cons.mp hz with rfl | hz
        · omega
        · exact h2 z (List.mem_cons_of_mem _ hz)
theorem dep_ints : ∀ ns : List Int, PyData.depthAll (ns.map PyData.int) = 0
  | [] => rfl
  | n :: ns => by show max 0 (PyData.depthAll (ns.map PyData.int)) = 0; rw [dep_ints ns]; rfl
theorem cr_maxO (hc : X.calm = true) (hu : X.A.units + 64 < cLine) : CallRK X (.builtin "max") ["default"] (rMaxO X.K) := by
  intro pins s σ H vs0 zs0 us0 ws0 Q I r r2 h
  obtain ⟨a, ns, m, rfl, rfl, hs, q0, q⟩ := h
  obtain ⟨its, rv, hl, hz⟩ := I.list hs
  rw [Vals.ref1 r]
  cases r2 with
  | cons r2 r3 =>
  cases r3
  obtain ⟨t, rfl⟩ := r2
  obtain ⟨L, e1, e2, e3, all⟩ := each_reads I rv (dp_ints ns)
  obtain ⟨as, rd⟩ := reads_of (h := s.heap) fun t ht => Dp.reads I _ _ _ (all t ht).2 (all t ht).1
  rw [e1, e3] at rd
  have rd : ReadsAll s.heap its.toArray.toList (ns.map PyData.int) as := rd
  have hh : X.A.handled = none := I.ok.hd hc
  have al : PySem.W.AlikeAll (ns.map PyData.int) := ⟨fun x hx y hy => by
    obtain ⟨i, _, rfl⟩ := List.mem_map.mp hx
    obtain ⟨j, _, rfl⟩ := List.mem_map.mp hy
    rfl, fun x hx e => by
    obtain ⟨i, _, rfl⟩ := List.mem_map.mp hx
    cases e⟩
  have dp := dep_ints ns
  refine PySem.W.max_list_default hh hl.isList rd al (by rw [dp]; omega) (fun e h' tk hk => ⟨.int m, H, I.kept hk, ⟨t, rfl⟩, q0 (List.map_eq_nil_iff.mp e)⟩) fun y ys i v h' tk bs e hv rr hk => ?_
  cases ns with
  | nil => cases e
  | cons n ns =>
    obtain ⟨rfl, rfl⟩ := List.cons.inj e
    rw [PySem.W.maxD_ints] at rr
    obtain ⟨h1, h2⟩ := max_of ns n
    cases rr
    exact ⟨.int _, H, I.kept hk, ⟨_, rfl⟩, q _ h1 h2⟩
theorem kc_maxO (hu : X.A.units + 64 < cLine) (hc : X.calm = true := by rfl) (h : X.K = K := by rfl) : CallRK X (.builtin "max") ["default"] (rMaxO K) := h ▸ cr_maxO hc hu
end
end Pot

/-! a dict comprehension over what is walked -/
namespace L2
open PySem PySem.Spec PyProof.Rows
theorem dc_it {J : It} {many : Nat} {Gd : Hp → Prop} {Yd : Nat → Hp → V → Hp → Prop} (wk : Walk J many Gd Yd) {tgt : TG} {tst : TT} {kx vx : TE} {own : List Nat} {σ0 : L2.St} {Hs : Hp} {nw : Addr} {Fin : Hp → Prop}
    (Iv : Nat → Hp → Prop) (begin_ : Iv 0 (upd Hs nw (.dK []))) (keeps_ : ∀ j Hj, j ≤ many → Iv j Hj → Gd Hj)
    (turn : ∀ j y Hj Hk, j < many → Iv j Hj → Yd j Hj y Hk → tgt y (wipe σ0 own) Hk fun σt Ht => wipe σt own = wipe σ0 own ∧ tst σt Ht fun yes Hb =>
      if yes = true then kx σt Hb fun ky Hc => vx σt Hc fun vl Hd => ∃ kv k, ky = kV k ∧ Hd nw = some (.dK kv) ∧ kv.length < sizeLine ∧ Iv (j + 1) (upd Hd nw (.dK (putK kv k vl))) else Iv (j + 1) Hb) (end_ : ∀ He, Iv many He → Fin He) :
    ∃ W : Nat → Nat → Hp → Prop, (∃ c, W 0 c (upd Hs nw (.dK []))) ∧ ∀ j c Hj, W j c Hj →
      (J.stop j Hj ∧ Fin Hj) ∨ (J.go j Hj ∧ ∃ More : Hp → Prop, (∀ Hm, More Hm → ∃ c', c' < c ∧ W (j + 1) c' Hm) ∧ ∀ y Hk, J.yld j Hj y Hk → tgt y (wipe σ0 own) Hk fun σt Ht => wipe σt own = wipe σ0 own ∧ tst σt Ht fun yes Hb =>
        if yes = true then kx σt Hb fun ky Hc => vx σt Hc fun vl Hd => ∃ kv k, ky = kV k ∧ Hd nw = some (.dK kv) ∧ kv.length < sizeLine ∧ More (upd Hd nw (.dK (putK kv k vl))) else More Hb) := by
  refine ⟨fun j c Hj => c + j = many ∧ Iv j Hj, ⟨many, Nat.add_zero _, begin_⟩, ?_⟩
  rintro j c Hj ⟨ec, iv⟩
  have gd := keeps_ j Hj (by omega) iv
  rcases Nat.lt_or_ge j many with less | over
  · exact .inr ⟨wk.goes j Hj less gd, Iv (j + 1), fun Hm im => ⟨c - 1, by omega, by omega, im⟩, fun y Hk yk => turn j y Hj Hk less iv (wk.yields j Hj y Hk less gd yk)⟩
  · obtain rfl : j = many := by omega
    exact .inl ⟨wk.stops Hj gd, end_ Hj iv⟩
end L2

/-! a dict comprehension put straight into a local name -/
namespace L2
open PySem PySem.Spec PyProof.Rows
abbrev BlkAll (X : Cx) (scp : Scope) (G : Cx → Prop) : Prop := ∀ (sh : Shared) (hp : Hp) (ad : Addr) (cls : List (Str × Addr)) (fps : List Addr), G (X.blk sh hp scp (compEnvC scp cls ad X.env) fps)
theorem ps_setDc {X : Cx} {ix : Nat} {nm : Str} {pn : Pos} {key val tgt src : Expr} {tests : List Expr} {scp : Scope} {mine : List (Str × Nat)} {pc ps : Pos} {wi : TI} {g : TG} {tt : TT} {tk tv : TE}
    (calm : X.calm = true) (nodup : X.N.Nodup) (there : X.N[ix]? = some nm) (loc : X.env.scope.names.lookup nm = some .local)
    (sw : swapsWith (.DictComp key val [⟨tgt, src, tests, 0⟩] scp pc) (some (.Name nm pn)) ps.line X.env = pure true)
    (walk : PI X tgt src wi) (blk : BlkOk X.N X.env.scope scp mine)
    (hg : BlkAll X scp fun B => PG B tgt g) (ht : BlkAll X scp fun B => PTs B tests tt) (hk : BlkAll X scp fun B => PE B key tk) (hv : BlkAll X scp fun B => PE B val tv)
    (fold : ∀ x, foldedSetIterable src X.env x = pure x := by intro _; rfl) :
    PS X (.Assign [.Name nm pn] (.DictComp key val [⟨tgt, src, tests, 0⟩] scp pc) ps) (tAsg (tDc wi g tt tk tv (mine.map (·.2))) (gName ix)) := by
  refine ⟨fun pins s σ H D I h => ?_⟩
  have ex : exec (.Assign [.Name nm pn] (.DictComp key val [⟨tgt, src, tests, 0⟩] scp pc) ps) X.env = _ := exec_Assign_Name_used _ _ _ _ sw
  rw [ex]
  refine wpAny_bind (wpAny_standAt (wpAny_bind ?_))
  show wpAny _ X.A (do let _ ← comprehension (.DictComp key val [⟨tgt, src, tests, 0⟩] scp pc) scp X.env (firstIterPos [⟨tgt, src, tests, 0⟩] pc) newDict false (eval src X.env) (some (assign (.Name nm pn) X.env))) _ _ s
  have h : tDc wi g tt tk tv (mine.map (·.2)) σ H (fun x H1 => gName ix x σ H1 D.nx) := h
  refine wpAny_bind (thn (dc_core (Qf := fun _ s' => SP X pins D .next s') calm nodup I walk blk hg ht hk hv fold h fun L C s' m H' I' q hn f => ?_) fun _ s' hq => wpAny_pure (wpAny_pure hq))
  show wpAny _ _ (assign (.Name nm pn) X.env (.ref L)) _ _ _
  refine wpAny_assign_Name (store_ok2 (v := V.ref L) I' nodup there (.inl loc) rfl (fun s2 I2 ⟨a, sb, ha⟩ => ?_) (.inr loc))
  obtain ⟨f0, f1, f2, f3, f4, f5⟩ := f
  have apart : C ≠ a := fun e => by
    rcases ha with z | z
    · exact f1 (e.trans z)
    · exact f4 nm a z e.symm
  exact ⟨m, hn.sameBut sb apart, fun h3 sb3 => ⟨_, H', I2.turned (t' := s2.toks) (fun b o hb e => (sb3.2 b hb).trans e) f0 f1 f3 f4 f5, q⟩⟩
theorem sw_dict {key val : Expr} {gens : List Comprehension} {scp : Scope} {pc pn : Pos} {nm : Str} {row : Nat} {env : Env} (fn : env.scope.kind = .function) (loc : env.scope.names.lookup nm = some .local) (line : (pn.line == pc.line) = true)
    (none_ : (scp.names.any fun (n, k) => n == nm && (k == .local || k == .cell)) = false) : swapsWith (.DictComp key val gens scp pc) (some (.Name nm pn)) row env = pure true := by
  have kn : env.kindOf nm = some .local := loc
  have bk : env.blockKind = .function := by unfold Env.blockKind; rw [fn]; rfl
  unfold swapsWith
  simp only [bk, kn, none_, Expr.pos, line]
  rfl
end L2

namespace Pot
open PySem PySem.Spec PyProof.Rows L2
/-! ### xs[::step], the step 1 or -1, worked out -/
def tStepL (K : PySem.W.Frag) (te ts : TE) : TE := fun σ H Q => te σ H fun x H1 => tPart ts σ H1 fun o H2 => ∃ i : Int, o = some i ∧ ∃ (a : Addr) (xs : List V), x = .ref a ∧ (i = 1 ∨ i = -1) ∧ SqL K H2 a xs ∧ ∀ p, H2 p = none → Q (.ref p) (upd H2 p (.lst (if i = 1 then xs else xs.reverse)))
section
variable {X : Cx} {K : PySem.W.Frag}
theorem pe_stepL0 {e st : Expr} {te ts : TE} {p3 pos : Pos} (he : PE X e te) (hs : PE X st ts) : PE X (.Subscript e (.Slice none none (some st) p3) pos) (tStepL X.K te ts) := by
  refine ⟨fun pins s σ H Q I h => ?_⟩
  refine Subscript_ (thn (he.run pins s σ H _ I h) fun v s1 ⟨x, H1, I1, r1, q1⟩ => ?_)
  have hst : PO X (some st) (tPart ts) := po_some hs
  refine wpAny_Slice (thn (po_none.run pins s1 σ H1 (fun o H2 => o = none ∧ H2 = H1) I1 ⟨rfl, rfl⟩) fun vl s2 ⟨l, H2, I2, pl, el, e2⟩ => ?_)
  subst el e2
  refine thn (po_none.run pins s2 σ H2 (fun o H3 => o = none ∧ H3 = H2) I2 ⟨rfl, rfl⟩) fun vu s3 ⟨u, H3, I3, pu, eu, e3⟩ => ?_
  subst eu e3
  refine thn (hst.run pins s3 σ H3 _ I3 q1) fun vs s4 ⟨o, H4, I4, ps, i, eo, a, xs, ex, hi, hx, q⟩ => ?_
  subst eo ex
  cases r1
  have I5 : Inv X pins σ H4 { s4 with heap := s4.heap.push { cls := .type "slice", data := .fields #[vl, vu, vs] } } := I4.kept (t' := s4.toks) fun b ob q => Heap.get?_push_of_some _ q
  obtain ⟨its, r, ht, hz⟩ := I5.list hx
  have hlen := r.length
  show wpAny (model X.prog X.w) X.A (subscriptTail e (.Slice none none (some st) p3) (.ref a) (.ref s4.heap.objs.size)) (EP X pins σ Q) X.xe { s4 with heap := s4.heap.push { cls := .type "slice", data := .fields #[vl, vu, vs] } }
  refine tail_any (ops := [.ref a, .ref s4.heap.objs.size]) ht.isList.typeIs (PySem.slot_list_getitem.lookup) ?_ (by with_unfolding_all rfl)
  refine wpAny_getItem_list_slice ht.isList (Heap.IsSliceOf.new _ vl vu vs) pl pu ps (by rcases hi with rfl | rfl <;> decide) ?_ (by rw [List.size_toArray]; omega)
  rcases hi with rfl | rfl
  · have e1 : slicePick its.toArray none none (some 1) = its.toArray := by
      exact slicePick_all its.toArray
    rw [e1]
    have q := q _ (I5.hok.fresh (Nat.le_refl _))
    rw [if_pos rfl] at q
    refine ⟨.ref _, _, I5.laid (t' := s4.toks) (o := .lst xs) (fun b ob q => Heap.get?_push_of_some _ q) (Nat.le_refl _) ?_, rfl, q⟩
    exact ⟨hz, _, 0, r, Heap.get?_push_size _ rfl⟩
  · rw [PySem.W.krv_pick]
    have q := q _ (I5.hok.fresh (Nat.le_refl _))
    rw [if_neg (by decide)] at q
    refine ⟨.ref _, _, I5.laid (t' := s4.toks) (o := .lst xs.reverse) (fun b ob q => Heap.get?_push_of_some _ q) (Nat.le_refl _) ?_, rfl, q⟩
    exact ⟨by rw [List.length_reverse]; exact hz, _, 0, r.reverse, Heap.get?_push_size _ rfl⟩
theorem pe_stepL {e st : Expr} {te ts : TE} {p3 pos : Pos} (he : PE X e te) (hs : PE X st ts) (h : X.K = K := by rfl) : PE X (.Subscript e (.Slice none none (some st) p3) pos) (tStepL K te ts) := h ▸ pe_stepL0 he hs
end
end Pot

set_option maxHeartbeats 1000000
namespace Pot
open PySem PySem.Spec PyProof.Rows L2
/-! ### list(zip(xs, ys)) of two lists -/
theorem zw_nolen : typeLookup (.type "zip") "__len__" = pure none := by rw [typeLookup_type, builtinLookup_eq_fast]; kernel_rfl
theorem zw_nohint : typeLookup (.type "zip") "__length_hint__" = pure none := by rw [typeLookup_type, builtinLookup_eq_fast]; kernel_rfl
/-- what the zip is like behind i turns -/
def ZwSt (h : Heap) (z TI TO i1 i2 l1 l2 S : Addr) (i : Nat) : Prop :=
  IsPair h TI (.ref i1) (.ref i2) ∧ h.IsListIter i1 l1 i ∧ h.IsListIter i2 l2 i ∧ ((i = 0 ∧ IsZip h z TI TO .none ∧ ∃ a b, IsPair h TO a b) ∨ ∃ T f oT, IsZipHeld h z TI TO T f ∧ h.get? T = some oT ∧ T ≠ z ∧ T ≠ i1 ∧ T ≠ i2 ∧ T ≠ S)
structure ZwG (xs ys : Array Value) (lo : Addr) (h : Heap) (as : List Addr) : Prop where
  rise : as.Pairwise (· < ·)
  above : ∀ a ∈ as, lo < a
  pairs : ∀ (j : Nat) (a : Addr), as[j]? = some a → ∃ x y, xs[j]? = some x ∧ ys[j]? = some y ∧ h.get? a = some { cls := .type "tuple", data := .seq #[x, y] }
theorem ZwG.there {xs ys : Array Value} {lo : Addr} {h : Heap} {as : List Addr} (g : ZwG xs ys lo h as) {a : Addr} (ha : a ∈ as) : a < h.objs.size := by
  obtain ⟨j, hj⟩ := List.mem_iff_getElem?.mp ha
  obtain ⟨_, _, _, _, e⟩ := g.pairs j a hj
  exact Heap.lt_size e
section
variable {prog : Program} {w : World} {A : Around} {E : Value → Shared → Prop} {s : Shared} {xs ys : Array Value} {z TI TO i1 i2 l1 l2 S : Addr}
theorem zw_keep {h h' : Heap} {i : Nat} (x : ZwSt h z TI TO i1 i2 l1 l2 S i) (hk : ∀ b o, b ≠ S → h.get? b = some o → h'.get? b = some o) (n1 : z ≠ S) (n2 : TI ≠ S) (n3 : TO ≠ S) (n4 : i1 ≠ S) (n5 : i2 ≠ S) : ZwSt h' z TI TO i1 i2 l1 l2 S i := by
  obtain ⟨a1, a2, a3, a4⟩ := x
  refine ⟨hk _ _ n2 a1, a2.at fun o e => hk _ o n4 e, a3.at fun o e => hk _ o n5 e, ?_⟩
  rcases a4 with ⟨e, hz, a, b, hp⟩ | ⟨T, f, oT, hz, ht, t1, t2, t3, t4⟩
  · exact .inl ⟨e, hk _ _ n1 hz, a, b, hk _ _ n3 hp⟩
  · exact .inr ⟨T, f, oT, hk _ _ n1 hz, hk _ _ t4 ht, t1, t2, t3, t4⟩
theorem zw_item {i : Nat} {x y : Value} {Q : Option Value → Shared → Prop} (D : ZipApart z TI TO i1 i2 l1 l2) (st : ZwSt s.heap z TI TO i1 i2 l1 l2 S i) (hS : S < s.heap.objs.size) (hl1 : s.heap.IsList l1 xs) (hl2 : s.heap.IsList l2 ys) (hx : xs[i]? = some x) (hy : ys[i]? = some y)
    (hQ : ∀ h', ZwSt h' z TI TO i1 i2 l1 l2 S (i + 1) → IsPair h' s.heap.objs.size x y → h'.objs.size = s.heap.objs.size + 1 → (∀ c o, c ≠ z → c ≠ TO → c ≠ i1 → c ≠ i2 → s.heap.get? c = some o → h'.get? c = some o) → Q (some (.ref s.heap.objs.size)) { s with heap := h' }) :
    wpAny (model prog w) A (pyNext (.ref z)) Q E s := by
  obtain ⟨a1, a2, a3, a4⟩ := st
  have l1_ : i1 < s.heap.objs.size := by obtain ⟨o, e, _⟩ := a2; exact Heap.lt_size e
  have l2_ : i2 < s.heap.objs.size := by obtain ⟨o, e, _⟩ := a3; exact Heap.lt_size e
  rcases a4 with ⟨e, hz, a, b, hp⟩ | ⟨T, f, oT, hz, ht, t1, t2, t3, t4⟩
  · refine wpAny_pyNext_zip_item D hz a1 hp a2 a3 hl1 hl2 hx hy fun h' b1 b2 b3 b4 b5 b6 b7 => ?_
    have lz := Heap.lt_size hz
    exact hQ h' ⟨b7 _ _ D.TIz D.TITO D.TIi1 D.TIi2 a1, b3, b4, .inr ⟨s.heap.objs.size, false, _, b1, b5, Nat.ne_of_gt lz, Nat.ne_of_gt l1_, Nat.ne_of_gt l2_, Nat.ne_of_gt hS⟩⟩ b5 b6 b7
  · refine wpAny_pyNext_zip_item_held D hz ht a1 a2 a3 hl1 hl2 hx hy fun h' b1 b3 b4 b5 b6 b7 => ?_
    exact hQ h' ⟨b7 _ _ D.TIz D.TIi1 D.TIi2 a1, b3, b4, .inr ⟨T, true, oT, b1, b7 _ _ t1 t2 t3 ht, t1, t2, t3, t4⟩⟩ b5 b6 fun c o c1 _ c3 c4 e => b7 c o c1 c3 c4 e
theorem zw_done {i : Nat} {Q : Option Value → Shared → Prop} (hh : A.handled = none) (D : ZipApart z TI TO i1 i2 l1 l2) (st : ZwSt s.heap z TI TO i1 i2 l1 l2 S i) (hl1 : s.heap.IsList l1 xs) (hl2 : s.heap.IsList l2 ys) (hx : xs[i]? = none)
    (hQ : ∀ h', (∀ c o, c ≠ z → c ≠ TO → c ≠ i1 → c ≠ i2 → s.heap.get? c = some o → h'.get? c = some o) → Q none { s with heap := h' }) :
    wpAny (model prog w) A (pyNext (.ref z)) Q E s := by
  obtain ⟨a1, a2, a3, a4⟩ := st
  rcases a4 with ⟨e, hz, a, b, hp⟩ | ⟨T, f, oT, hz, ht, t1, t2, t3, t4⟩
  · exact wpAny_pyNext_zip_end hh D hz a1 hp a2 a3 hl1 hl2 (.inl hx) hQ
  · exact wpAny_pyNext_zip_end_held hh D hz ht a1 a2 a3 hl1 hl2 (.inl hx) fun h' hk => hQ h' fun c o c1 _ c3 c4 e => hk c o c1 c3 c4 e
end
section
variable {prog : Program} {w : World} {A : Around} {s : Shared} {R : Result → Shared → Prop} {xs ys : Array Value} {z TI TO i1 i2 l1 l2 S : Addr}
theorem zw_loop (hh : A.handled = none) (D : ZipApart z TI TO i1 i2 l1 l2) (n1 : z ≠ S) (n2 : TI ≠ S) (n3 : TO ≠ S) (n4 : i1 ≠ S) (n5 : i2 ≠ S) (n6 : l1 ≠ S) (n7 : l2 ≠ S) {lo : Addr} (b1 : z ≤ lo) (b3 : TO ≤ lo) (b4 : i1 ≤ lo) (b5 : i2 ≤ lo) (b6 : S ≤ lo) (hl : ys.size = xs.size) (hn : xs.size ≤ sizeLine) (res : Value) {h₁ : Heap}
    (hR : ∀ h' tk acc c as, (∀ b o, b ≠ S → b ≠ z → b ≠ TO → b ≠ i1 → b ≠ i2 → h₁.get? b = some o → h'.get? b = some o) → h'.get? S = some { cls := .type "list", dict := none, data := .seq acc c, slots := #[] } → as.length = xs.size → ZwG xs ys lo h' as →
      acc.toList = as.map Value.ref → R (.ok (.ret res)) { s with heap := h', toks := tk }) :
    ∀ (k i : Nat) (h : Heap) (tk c : Nat) (acc : Array Value) (as : List Addr), xs.size - i = k → i ≤ xs.size → ZwSt h z TI TO i1 i2 l1 l2 S i → h.IsList l1 xs → h.IsList l2 ys → (∀ b o, b ≠ S → b ≠ z → b ≠ TO → b ≠ i1 → b ≠ i2 → h₁.get? b = some o → h.get? b = some o) →
      h.get? S = some { cls := .type "list", dict := none, data := .seq acc c, slots := #[] } → acc.toList = as.map Value.ref → as.length = i → ZwG xs ys lo h as → lo < h.objs.size →
      codeAny (model prog w) A (.builtin "list.extend.loop" ⟨[.ref S, .ref z, res], []⟩) R { s with heap := h, toks := tk } := by
  intro k
  induction k with
  | zero =>
    intro i h tk c acc as hk hi hst hL1 hL2 hkeep hS hacc hal hG hIs
    refine codeAny_builtin PySem.F.entry_extend_loop ?_
    rw [Around.under_plainId PySem.F.plain_extend_loop _]
    show wpAny _ A.in1 (pyNext (.ref z) >>= _) _ _ _
    refine wpAny_bind (zw_done (s := { s with heap := h, toks := tk }) (A := A.in1) hh D hst hL1 hL2 (Array.getElem?_eq_none (by omega)) fun h' he => ?_)
    refine wpAny_pure (hR h' tk acc c as (fun b o h1 h2 h3 h4 h5 e => he b o h2 h3 h4 h5 (hkeep b o h1 h2 h3 h4 h5 e)) (he S _ n1.symm n3.symm n4.symm n5.symm hS) (by omega) ⟨hG.rise, hG.above, fun j a hj => ?_⟩ hacc)
    obtain ⟨x, y, e1, e2, e3⟩ := hG.pairs j a hj
    have ab := hG.above a (List.mem_of_getElem? hj)
    exact ⟨x, y, e1, e2, he a _ (Nat.ne_of_gt (Nat.lt_of_le_of_lt b1 ab)) (Nat.ne_of_gt (Nat.lt_of_le_of_lt b3 ab)) (Nat.ne_of_gt (Nat.lt_of_le_of_lt b4 ab)) (Nat.ne_of_gt (Nat.lt_of_le_of_lt b5 ab)) e3⟩
  | succ k ih =>
    intro i h tk c acc as hk hi hst hL1 hL2 hkeep hS hacc hal hG hIs
    have hlt : i < xs.size := by omega
    obtain ⟨x, hx⟩ : ∃ p, xs[i]? = some p := ⟨xs[i], Array.getElem?_eq_getElem hlt⟩
    obtain ⟨y, hy⟩ : ∃ p, ys[i]? = some p := ⟨ys[i], Array.getElem?_eq_getElem (by omega)⟩
    have hsz : acc.size = i := by rw [← Array.length_toList, hacc, List.length_map, hal]
    refine codeAny_builtin PySem.F.entry_extend_loop ?_
    rw [Around.under_plainId PySem.F.plain_extend_loop _]
    show wpAny _ A.in1 (pyNext (.ref z) >>= _) _ _ _
    refine wpAny_bind (zw_item (s := { s with heap := h, toks := tk }) (S := S) D hst (Heap.lt_size hS) hL1 hL2 hx hy fun h' hst' ht hz hkp => ?_)
    dsimp only at ht hz hkp ⊢
    have hS' := hkp S _ n1.symm n3.symm n4.symm n5.symm hS
    have up : ∀ b o, b ≠ S → h'.get? b = some o → (h'.update S (Obj.mapSeq (·.push (Value.ref h.objs.size)))).get? b = some o := fun b o hb e => (Heap.get?_update_other _ _ (Ne.symm hb)).trans e
    have hSl : S < h.objs.size := Heap.lt_size hS
    show wpAny _ A.in1 (updateSeq S (·.push (Value.ref h.objs.size)) >>= _) _ _ _
    refine wpAny_bind ?_
    refine wpAny_updateSeq hS' rfl (wpAny_pure ⟨plainId_quiet PySem.F.plain_extend_loop _, ih (i + 1) _ tk _ (acc.push (Value.ref h.objs.size)) (as ++ [h.objs.size]) (by omega) hlt (zw_keep hst' up n1 n2 n3 n4 n5)
      (hL1.at fun o e => up l1 o n6 (hkp l1 o D.l1z D.l1TO D.l1i1 D.l1i2 e)) (hL2.at fun o e => up l2 o n7 (hkp l2 o D.l2z D.l2TO D.l2i1 D.l2i2 e))
      (fun b o h1 h2 h3 h4 h5 e => up b o h1 (hkp b o h2 h3 h4 h5 (hkeep b o h1 h2 h3 h4 h5 e))) (Heap.get?_update_self _ hS' rfl) (by rw [Array.toList_push, hacc, List.map_append]; rfl) (by rw [List.length_append, hal]; rfl) ⟨?_, ?_, ?_⟩ ?_⟩) (by rw [hsz]; omega) (by show (acc.push (Value.ref h.objs.size)).size ≤ sizeLine + 1; rw [Array.size_push, hsz]; omega)
    · refine List.pairwise_append.mpr ⟨hG.rise, List.pairwise_singleton _ _, fun a ha b hb => ?_⟩
      rw [List.mem_singleton.mp hb]
      exact hG.there ha
    · intro a ha
      rcases List.mem_append.mp ha with ha | ha
      · exact hG.above a ha
      · rw [List.mem_singleton.mp ha]; exact hIs
    · intro j b hj
      rcases Nat.lt_trichotomy j as.length with h1 | h1 | h1
      · rw [List.getElem?_append_left h1] at hj
        obtain ⟨x', y', e1, e2, e3⟩ := hG.pairs j b hj
        have ab := hG.above b (List.mem_of_getElem? hj)
        exact ⟨x', y', e1, e2, up b _ (Nat.ne_of_gt (Nat.lt_of_le_of_lt b6 ab)) (hkp b _ (Nat.ne_of_gt (Nat.lt_of_le_of_lt b1 ab)) (Nat.ne_of_gt (Nat.lt_of_le_of_lt b3 ab)) (Nat.ne_of_gt (Nat.lt_of_le_of_lt b4 ab)) (Nat.ne_of_gt (Nat.lt_of_le_of_lt b5 ab)) e3)⟩
      · subst h1
        have hb : h.objs.size = b := by simpa using hj
        subst hb
        exact ⟨x, y, by rw [hal]; exact hx, by rw [hal]; exact hy, up _ _ (Nat.ne_of_gt hSl) ht⟩
      · have hnone : (as ++ [h.objs.size])[j]? = none := List.getElem?_eq_none (by rw [List.length_append, List.length_singleton]; omega)
        rw [hnone] at hj; cases hj
    · have e : (h'.update S (Obj.mapSeq (·.push (Value.ref h.objs.size)))).get? h.objs.size = _ := up _ _ (Nat.ne_of_gt hSl) ht
      exact Nat.lt_trans hIs (Heap.lt_size e)
/-- no hint of the length -/
theorem zw_hint {M : Model} {E : Value → Shared → Prop} (hT : s.TypeIs (.ref z) "zip") {Q : Bool → Shared → Prop} (h : Q true s) : wpAny M A (Builtin.List.listLengthHint (.ref z)) Q E s := by
  unfold Builtin.List.listLengthHint
  refine wpAny_bind (wpAny_specialOf hT zw_nolen ?_)
  show wpAny _ A (specialOf (Value.ref z) (Str.ofString "__length_hint__") >>= _) _ _ _
  refine wpAny_bind (wpAny_specialOf hT zw_nohint ?_)
  exact wpAny_pure h
theorem zw_extend (hh : A.handled = none) (D : ZipApart z TI TO i1 i2 l1 l2) (n1 : z ≠ S) (n2 : TI ≠ S) (n3 : TO ≠ S) (n4 : i1 ≠ S) (n5 : i2 ≠ S) (n6 : l1 ≠ S) (n7 : l2 ≠ S) (b1 : z ≤ S) (b3 : TO ≤ S) (b4 : i1 ≤ S) (b5 : i2 ≤ S) (hl : ys.size = xs.size) (hn : xs.size ≤ sizeLine) (res : Value) (c₀ : Nat)
    (hz : IsZip s.heap z TI TO .none) (hst : ZwSt s.heap z TI TO i1 i2 l1 l2 S 0) (hL1 : s.heap.IsList l1 xs) (hL2 : s.heap.IsList l2 ys) (hS : s.heap.get? S = some { cls := .type "list", data := .seq #[] c₀ })
    (hR : ∀ h' tk acc c as, (∀ b o, b ≠ S → b ≠ z → b ≠ TO → b ≠ i1 → b ≠ i2 → s.heap.get? b = some o → h'.get? b = some o) → h'.get? S = some { cls := .type "list", dict := none, data := .seq acc c, slots := #[] } → as.length = xs.size → ZwG xs ys S h' as →
      acc.toList = as.map Value.ref → R (.ok (.ret res)) { s with heap := h', toks := tk }) :
    wpAny (model prog w) A.in1 (Builtin.List.listExtendWith (.ref S) (.ref z) res)
      (fun fin s' => match fin with | .done f => R (.ok f) s' | .again c' => c'.quiet = true ∧ codeAny (model prog w) A c' R s') (fun e s' => R (.error e) s') s := by
  have hT : s.TypeIs (.ref z) "zip" := ⟨_, hz, rfl⟩
  unfold Builtin.List.listExtendWith
  refine wpAny_bind (wpAny_typeOf (T := "zip") hT ?_)
  have h1 : Builtin.List.listSameRef (.ref S) (.ref z) = false := by simp [Builtin.List.listSameRef, n1.symm]
  have h2 : (Value.type "zip" == Value.type "list") = false := by decide
  have h3 : (Value.type "zip" == Value.type "tuple") = false := by decide
  simp only [h1, h2, h3, Bool.or_false, Bool.false_eq_true, if_false]
  refine wpAny_bind (wpAny_pyIter_zip hz ?_)
  refine wpAny_bind (wpAny_holding (zw_hint hT ?_))
  refine wpAny_ite_split (fun _ => ?_) (fun h => absurd rfl h)
  refine wpAny_bind (wpAny_rule ?_)
  refine wpAny_bind ?_
  show wpAny _ _ (updateSeq S (·.push .none) >>= fun _ => updateSeq S (·.pop)) _ _ _
  refine wpAny_bind (wpAny_updateSeq hS rfl ?_)
  have hS₂ := Heap.get?_update_self (Obj.mapSeq (·.push Value.none)) hS rfl
  refine wpAny_updateSeq (hz := by seq_fits) hS₂ rfl ?_
  have hS₃ := Heap.get?_update_self (Obj.mapSeq (·.pop)) hS₂ rfl
  have oth : ∀ b o, b ≠ S → s.heap.get? b = some o → ((s.heap.update S (Obj.mapSeq (·.push Value.none))).update S (Obj.mapSeq (·.pop))).get? b = some o := fun b o hb e => (Heap.get?_update_other _ _ (Ne.symm hb)).trans ((Heap.get?_update_other _ _ (Ne.symm hb)).trans e)
  refine wpAny_pure ⟨plainId_quiet PySem.F.plain_extend_loop _, zw_loop (h₁ := s.heap) hh D n1 n2 n3 n4 n5 n6 n7 (lo := S) b1 b3 b4 b5 (Nat.le_refl _) hl hn res hR xs.size 0 _ _ _ #[] [] (Nat.sub_zero _) (Nat.zero_le _) (zw_keep hst oth n1 n2 n3 n4 n5) (hL1.at fun o e => oth _ o n6 e) (hL2.at fun o e => oth _ o n7 e) (fun b o hb _ _ _ _ e => oth b o hb e) hS₃ rfl rfl
    ⟨List.Pairwise.nil, (fun _ ha => nomatch ha), (fun j a hj => by simp at hj)⟩ (Heap.lt_size hS₃)⟩
end
section
variable {prog : Program} {w : World} {A : Around} {E : Value → Shared → Prop} {s : Shared} {xs ys : Array Value} {z TI TO i1 i2 l1 l2 : Addr}
theorem zw_call {Q : Value → Shared → Prop} (hh : A.handled = none) (D : ZipApart z TI TO i1 i2 l1 l2) (hl : ys.size = xs.size) (hn : xs.size ≤ sizeLine)
    (hz : IsZip s.heap z TI TO .none) (hTI : IsPair s.heap TI (.ref i1) (.ref i2)) (hTO : IsPair s.heap TO .none .none) (f1 : s.heap.IsListIter i1 l1 0) (f2 : s.heap.IsListIter i2 l2 0) (hL1 : s.heap.IsList l1 xs) (hL2 : s.heap.IsList l2 ys)
    (hQ : ∀ h' tk acc c as, (∀ b o, b ≠ z → b ≠ TO → b ≠ i1 → b ≠ i2 → s.heap.get? b = some o → h'.get? b = some o) → h'.get? s.heap.objs.size = some { cls := .type "list", dict := none, data := .seq acc c, slots := #[] } → as.length = xs.size → ZwG xs ys s.heap.objs.size h' as →
      acc.toList = as.map Value.ref → Q (.ref s.heap.objs.size) { s with heap := h', toks := tk }) :
    wpAny (model prog w) A (call (.type "list") [.ref z]) Q E s := by
  refine callType_codes (Q₁ := fun obj s₁ => obj = .ref s.heap.objs.size ∧ s₁ = { s with heap := s.heap.push { cls := .type "list", data := .seq #[] } }) PySem.F.called_list (PySem.F.typeCall_list_1 _) PySem.F.entry_list_init
    (code_list_new _ ⟨rfl, rfl⟩) fun obj s₁ h₁ => ?_
  obtain ⟨rfl, rfl⟩ := h₁
  have hS : (s.heap.push { cls := .type "list", data := .seq #[] }).get? s.heap.objs.size = some { cls := .type "list", data := .seq #[] } := Heap.get?_push_size _ rfl
  have up : ∀ b o, s.heap.get? b = some o → (s.heap.push { cls := .type "list", data := .seq #[] }).get? b = some o := fun b o e => Heap.get?_push_of_some _ e
  have lz := Heap.lt_size hz
  have lTI := Heap.lt_size hTI
  have lTO := Heap.lt_size hTO
  have li1 : i1 < s.heap.objs.size := by obtain ⟨o, e, _⟩ := f1; exact Heap.lt_size e
  have li2 : i2 < s.heap.objs.size := by obtain ⟨o, e, _⟩ := f2; exact Heap.lt_size e
  have ll1 : l1 < s.heap.objs.size := by obtain ⟨o, e, _⟩ := hL1; exact Heap.lt_size e
  have ll2 : l2 < s.heap.objs.size := by obtain ⟨o, e, _⟩ := hL2; exact Heap.lt_size e
  refine ⟨⟨_, hS, rfl⟩, PySem.F.args_list_init_2 _ _, ?_⟩
  show wpAny _ _ (do let old ← Builtin.List.listItems (.ref s.heap.objs.size); Builtin.List.listUpdate (.ref s.heap.objs.size) (fun _ => #[]); letGo old.toList.reverse; Builtin.List.listExtendWith (.ref s.heap.objs.size) (.ref z) .none) _ _ _
  refine wpAny_bind ?_
  unfold Builtin.List.listItems
  refine wpAny_bind (wpAny_seqItems hS rfl (wpAny_pure ?_))
  show wpAny _ _ (updateSeq s.heap.objs.size (fun _ => #[]) >>= fun _ => letGo (#[] : Array Value).toList.reverse >>= fun _ => Builtin.List.listExtendWith (.ref s.heap.objs.size) (.ref z) .none) _ _ _
  refine wpAny_bind (wpAny_updateSeq hS rfl ?_)
  have hS₂ := Heap.get?_update_self (Obj.mapSeq (fun _ => (#[] : Array Value))) hS rfl
  have oth : ∀ b o, b ≠ s.heap.objs.size → s.heap.get? b = some o → ((s.heap.push { cls := .type "list", data := .seq #[] }).update s.heap.objs.size (Obj.mapSeq (fun _ => (#[] : Array Value)))).get? b = some o :=
    fun b o hb e => (Heap.get?_update_other _ _ (Ne.symm hb)).trans (up b o e)
  refine wpAny_bind (wpAny_letGo ?_)
  refine zw_extend (A := A.in1) hh D (Nat.ne_of_lt lz) (Nat.ne_of_lt lTI) (Nat.ne_of_lt lTO) (Nat.ne_of_lt li1) (Nat.ne_of_lt li2) (Nat.ne_of_lt ll1) (Nat.ne_of_lt ll2) (Nat.le_of_lt lz) (Nat.le_of_lt lTO) (Nat.le_of_lt li1) (Nat.le_of_lt li2) hl hn .none _
    (oth _ _ (Nat.ne_of_lt lz) hz) ⟨oth _ _ (Nat.ne_of_lt lTI) hTI, f1.at fun o e => oth _ o (Nat.ne_of_lt li1) e, f2.at fun o e => oth _ o (Nat.ne_of_lt li2) e, .inl ⟨rfl, oth _ _ (Nat.ne_of_lt lz) hz, _, _, oth _ _ (Nat.ne_of_lt lTO) hTO⟩⟩
    (hL1.at fun o e => oth _ o (Nat.ne_of_lt ll1) e) (hL2.at fun o e => oth _ o (Nat.ne_of_lt ll2) e) hS₂ fun h' tk acc c as hk hS' hl' hG hacc => ?_
  exact ⟨rfl, hQ h' tk acc c as (fun b o c1 c2 c3 c4 e => hk b o (Nat.ne_of_lt (Heap.lt_size e)) c1 c2 c3 c4 (oth b o (Nat.ne_of_lt (Heap.lt_size e)) e)) hS' hl' hG hacc⟩
end
/-- the tuples tracked at their addresses -/
def putZ : Hp → List Addr → List (V × V) → Hp
  | H, a :: as, p :: ps => putZ (upd H a (.tup [p.1, p.2])) as ps
  | H, _, _ => H
theorem putZ_off {b : Addr} : ∀ (as : List Addr) (ps : List (V × V)) (H : Hp), b ∉ as → putZ H as ps b = H b
  | [], _, _, _ => rfl
  | _ :: _, [], _, _ => rfl
  | a :: as, p :: ps, H, h => by
    show putZ (upd H a (.tup [p.1, p.2])) as ps b = H b
    rw [putZ_off as ps _ (fun z => h (List.mem_cons_of_mem _ z)), upd_ne (fun z => h (by rw [z]; exact List.mem_cons_self))]
theorem putZ_at : ∀ (as : List Addr) (ps : List (V × V)) (H : Hp), as.length = ps.length → as.Nodup → ∀ (j : Nat) (a : Addr) (p : V × V), as[j]? = some a → ps[j]? = some p → putZ H as ps a = some (.tup [p.1, p.2])
  | [], _, _, _, _, j, a, p, h, _ => by simp at h
  | _ :: _, [], _, h, _, _, _, _, _, _ => by cases h
  | b :: as, q :: ps, H, h, hn, j, a, p, h1, h2 => by
    have hn' := List.nodup_cons.mp hn
    cases j with
    | zero =>
      cases h1; cases h2
      show putZ (upd H b (.tup [q.1, q.2])) as ps b = _
      rw [putZ_off as ps _ hn'.1, upd_same]
    | succ j =>
      exact putZ_at as ps (upd H b (.tup [q.1, q.2])) (Nat.succ.inj h) hn'.2 j a p h1 h2
section
variable {X : Cx} {pins : List (Addr × Obj)} {σ : L2.St} {H : Hp} {s : Shared}
theorem zip_laid {h' : Heap} {tk : Nat} {xs ys : List V} {us vs : List Value} {acc : Array Value} {c : Nat} {as : List Addr} {S : Addr} (I : Inv X pins σ H s) (hz : xs.length ≤ sizeLine) (ru : Vals xs us) (rv : Vals ys vs) (hl : ys.length = xs.length)
    (hk : ∀ b o, s.heap.get? b = some o → h'.get? b = some o) (hSl : s.heap.objs.size ≤ S) (hS : h'.get? S = some { cls := .type "list", dict := none, data := .seq acc c, slots := #[] }) (hla : as.length = xs.length) (hG : ZwG us.toArray vs.toArray S h' as) (hacc : acc.toList = as.map Value.ref) :
    ∃ H' : Hp, (∀ b o, H b = some o → H' b = some o) ∧ H S = none ∧ (∀ t ∈ as, H t = none) ∧ S ∉ as ∧ H' S = some (.lst (as.map V.ref)) ∧ (∀ (j : Nat) (t : Addr), as[j]? = some t → ∃ x y, xs[j]? = some x ∧ ys[j]? = some y ∧ H' t = some (.tup [x, y])) ∧ Inv X pins σ H' { s with heap := h', toks := tk } := by
  have lz : (xs.zip ys).length = xs.length := by rw [List.length_zip]; omega
  have hSn : S ∉ as := fun z => Nat.lt_irrefl _ (hG.above _ z)
  have nd : as.Nodup := List.Pairwise.imp (fun {a b} (h : a < b) => Nat.ne_of_lt h) hG.rise
  have new : ∀ t ∈ as, H t = none := fun t ht => I.hok.fresh (Nat.le_of_lt (Nat.lt_of_le_of_lt hSl (hG.above t ht)))
  have newS : H S = none := I.hok.fresh hSl
  have atP := putZ_at as (xs.zip ys) (upd H S (.lst (as.map V.ref))) (by omega) nd
  have off : ∀ b, b ∉ as → b ≠ S → putZ (upd H S (.lst (as.map V.ref))) as (xs.zip ys) b = H b := fun b h1 h2 => by rw [putZ_off as _ _ h1, upd_ne h2]
  have low : ∀ b o, s.heap.get? b = some o → b ∉ as ∧ b ≠ S := fun b o e => ⟨fun z => absurd (Heap.lt_size e) (Nat.not_lt.mpr (Nat.le_of_lt (Nat.lt_of_le_of_lt hSl (hG.above b z)))), Nat.ne_of_lt (Nat.lt_of_lt_of_le (Heap.lt_size e) hSl)⟩
  have kp : ∀ b u, H b = some u → (putZ (upd H S (.lst (as.map V.ref))) as (xs.zip ys)) b = some u := fun b u e => by
    rw [off b (fun z => by rw [new b z] at e; cases e) (fun z => by rw [z, newS] at e; cases e)]
    exact e
  have eS : putZ (upd H S (.lst (as.map V.ref))) as (xs.zip ys) S = some (.lst (as.map V.ref)) := by rw [putZ_off as _ _ hSn, upd_same]
  have at2 : ∀ (j : Nat) (t : Addr), as[j]? = some t → ∃ x y, xs[j]? = some x ∧ ys[j]? = some y ∧ putZ (upd H S (.lst (as.map V.ref))) as (xs.zip ys) t = some (.tup [x, y]) := fun j t hj => by
    have lj : j < as.length := (List.getElem?_eq_some_iff.mp hj).1
    have g1 : xs[j]? = some xs[j] := List.getElem?_eq_getElem (by omega)
    have g2 : ys[j]? = some (ys[j]'(by omega)) := List.getElem?_eq_getElem (by omega)
    refine ⟨_, _, g1, g2, ?_⟩
    exact atP j t (xs[j]'(by omega), ys[j]'(by omega)) hj (by rw [List.getElem?_zip_eq_some]; exact ⟨g1, g2⟩)
  refine ⟨putZ (upd H S (.lst (as.map V.ref))) as (xs.zip ys), kp, newS, new, hSn, eS, at2, ?_⟩
  refine I.call' (ch := []) rfl ⟨fun b o q _ _ _ => hk b o q, fun b o q _ _ _ => ⟨o.slots, hk b o q⟩, fun b o q n _ => ?_, fun b o q _ => ⟨o, hk b o q⟩, fun b xs q => kp b _ q, fun b o u q => kp b _ q, fun b ps q => ⟨#[], by rw [kp b _ q]; simp⟩⟩ (fun b u q => ?_) I.bare fun b z => by simp at z
  · obtain ⟨z1, z2⟩ := low b o q
    rw [off b z1 z2]
    exact n
  · by_cases hb : b ∈ as
    · obtain ⟨j, hj⟩ := List.mem_iff_getElem?.mp hb
      obtain ⟨x, y, e1, e2, e3⟩ := at2 j b hj
      rw [e3] at q
      cases q
      obtain ⟨u, v, f1, f2, f3⟩ := hG.pairs j b hj
      obtain ⟨u', g1, r1⟩ := ru.get e1
      obtain ⟨v', g2, r2⟩ := rv.get e2
      have f1 : us[j]? = some u := by simpa using f1
      have f2 : vs[j]? = some v := by simpa using f2
      rw [f1] at g1; rw [f2] at g2
      cases g1; cases g2
      exact ⟨by show 2 ≤ sizeLine; decide, [u, v], .cons r1 (.cons r2 .nil), ⟨_, f3, rfl, _, rfl⟩⟩
    · by_cases hb2 : b = S
      · rw [hb2] at q ⊢
        rw [eS] at q
        cases q
        refine ⟨by rw [List.length_map]; omega, acc.toList, c, by rw [hacc]; exact LiI.vals_refs as, ?_⟩
        rw [Array.toArray_toList]
        exact hS
      · rw [off b hb hb2] at q
        exact (I.hok b u q).stay (fun d v _ y => hk d v y) (fun d y => kp d _ y) fun d xs y => kp d _ y
end
def tListZip (K : PySem.W.Frag) (ta tb : TE) : TE := fun σ H Q => ta σ H fun x H1 => tb σ H1 fun y H2 => ∃ (a b : Addr) (xs ys : List V), x = .ref a ∧ y = .ref b ∧ SqL K H2 a xs ∧ SqL K H2 b ys ∧ ys.length = xs.length ∧
  ∀ (H' : Hp) (p : Addr) (ts : List Addr), (∀ b o, H2 b = some o → H' b = some o) → H2 p = none → (∀ t ∈ ts, H2 t = none) → p ∉ ts → ts.length = xs.length → H' p = some (.lst (ts.map V.ref)) → (∀ (j : Nat) (t : Addr), ts[j]? = some t → ∃ x y, xs[j]? = some x ∧ ys[j]? = some y ∧ H' t = some (.tup [x, y])) → Q (.ref p) H'
section
variable {X : Cx} {K : PySem.W.Frag} {e e2 : Expr} {ta tb : TE} {p pz zpos pos : Pos}
theorem pe_listZip0 (hc : X.calm = true) (ha : PE X e ta) (hb : PE X e2 tb) (hg : Gl X "list") (hm : X.mg "list" = none) (hg2 : Gl X "zip") (hm2 : X.mg "zip" = none) (hv : bootBuiltins "list" = some (.type "list"))
    (na : starEach [e, e2] X.env = (false, eval e X.env) :: starEach [e2] X.env) (nb : starEach [e2] X.env = (false, eval e2 X.env) :: starEach [] X.env) (hp : (backTo zpos (starEach [e2] X.env)).any (·.1) = false) :
    PE X (.Call (.Name "list" p) [.Call (.Name "zip" pz) [e, e2] [] zpos] [] pos) (tListZip X.K ta tb) := by
  refine ⟨fun pins s σ H Q I h => ?_⟩
  refine Call_ (ld_blt I hg hm hv ?_)
  refine PyProof.Rows.callWith_type1 (PyProof.Rows.args_cons ?_ rfl) rfl rfl
  refine Call_ (ld_blt I hg2 hm2 PyProof.Rows.boot_zip ?_)
  refine PyProof.Rows.callWith_type1 (PyProof.Rows.args_cons (thn (ha.run pins s σ H _ I h) fun v s1 ⟨x, H1, I1, r1, q1⟩ => ?_) na) na hp
  refine PyProof.Rows.args_cons (thn (hb.run pins s1 σ H1 _ I1 q1) fun v2 s2 ⟨y, H2, I2, r2, q2⟩ => PyProof.Rows.args_nil ?_) nb
  obtain ⟨a, b, xs, ys, rfl, rfl, hqa, hqb, hl, q⟩ := q2
  cases r1
  cases r2
  obtain ⟨its1, ru, p1, hz1⟩ := I2.list hqa
  obtain ⟨its2, rv, p2, hz2⟩ := I2.list hqb
  have l1 := p1.lt
  have l2 := p2.lt
  have e1 := ru.length
  have e2 := rv.length
  refine call_zip_2 p1.isList p2.isList fun h' hz hTI hTO f1 f2 hsz hk => PyProof.Rows.args_nil ?_
  have D : ZipApart (s2.heap.objs.size + 4) (s2.heap.objs.size + 2) (s2.heap.objs.size + 3) s2.heap.objs.size (s2.heap.objs.size + 1) a b := by
    constructor <;> first | exact Nat.ne_of_lt (Nat.lt_of_lt_of_le l1 (Nat.le_add_right _ _)) | exact Nat.ne_of_lt (Nat.lt_of_lt_of_le l2 (Nat.le_add_right _ _)) | exact Nat.ne_of_lt l1 | exact Nat.ne_of_lt l2 | (show (_ : Nat) ≠ _; omega)
  refine zw_call (s := { s2 with heap := h' }) (I2.ok.hd hc) D (by rw [List.size_toArray, List.size_toArray]; omega) (by rw [List.size_toArray]; omega) hz hTI hTO f1 f2 (p1.isList.at fun o e => hk _ o e) (p2.isList.at fun o e => hk _ o e) fun h2 tk acc c as hk2 hS hla hG hacc => ?_
  dsimp only at hS hG ⊢
  have hk3 : ∀ b o, s2.heap.get? b = some o → h2.get? b = some o := fun b o e => by
    have lb := Heap.lt_size e
    exact hk2 b o (Nat.ne_of_lt (Nat.lt_of_lt_of_le lb (Nat.le_add_right _ _))) (Nat.ne_of_lt (Nat.lt_of_lt_of_le lb (Nat.le_add_right _ _))) (Nat.ne_of_lt lb) (Nat.ne_of_lt (Nat.lt_of_lt_of_le lb (Nat.le_add_right _ _))) (hk b o e)
  obtain ⟨H', k1, k2, k3, k4, k5, k6, J⟩ := zip_laid (tk := tk) I2 (by omega) ru rv hl hk3 (by rw [hsz]; omega) hS (by rw [hla, List.size_toArray]; omega) hG hacc
  exact ⟨.ref _, H', J, rfl, q H' _ as k1 k2 k3 k4 (by rw [hla, List.size_toArray]; omega) k5 k6⟩
theorem pe_listZip (ha : PE X e ta) (hb : PE X e2 tb) (hg : Gl X "list") (hm : X.mg "list" = none) (hg2 : Gl X "zip") (hm2 : X.mg "zip" = none) (h : X.K = K := by rfl) (hc : X.calm = true := by rfl)
    (na : starEach [e, e2] X.env = (false, eval e X.env) :: starEach [e2] X.env := by rfl) (nb : starEach [e2] X.env = (false, eval e2 X.env) :: starEach [] X.env := by rfl) (hp : (backTo zpos (starEach [e2] X.env)).any (·.1) = false := by rfl) :
    PE X (.Call (.Name "list" p) [.Call (.Name "zip" pz) [e, e2] [] zpos] [] pos) (tListZip K ta tb) := h ▸ pe_listZip0 hc ha hb hg hm hg2 hm2 boot_list na nb hp
end
/-! ### xs[lo::step] -/
def pickV (xs : List V) (lo st : Option Int) : List V := (sliceRange (sliceBounds lo none st xs.length).1 (sliceBounds lo none st xs.length).2.1 (sliceBounds lo none st xs.length).2.2).filterMap (xs[·]?)
theorem pick_vals {xs : List V} {us : List Value} (r : Vals xs us) : ∀ is : List Nat, Vals (is.filterMap (xs[·]?)) (is.filterMap (us.toArray[·]?))
  | [] => .nil
  | i :: is => by
    have ih := pick_vals r is
    have e : us.toArray[i]? = us[i]? := by simp
    cases h : xs[i]? with
    | none =>
      have h2 : us[i]? = none := by
        rw [List.getElem?_eq_none_iff] at h ⊢
        have := r.length
        omega
      rw [List.filterMap_cons_none h, List.filterMap_cons_none (by rw [e]; exact h2)]
      exact ih
    | some x =>
      obtain ⟨u, g, ru⟩ := r.get h
      rw [List.filterMap_cons_some h, List.filterMap_cons_some (by rw [e]; exact g)]
      exact .cons ru ih
def tStepF (K : PySem.W.Frag) (te : TE) (tl ts : L2.St → Hp → (Option Int → Hp → Prop) → Prop) : TE := fun σ H Q => te σ H fun x H1 => tl σ H1 fun l H2 => ts σ H2 fun o H3 => ∃ i : Int, o = some i ∧ i ≠ 0 ∧ ∃ (a : Addr) (xs : List V), x = .ref a ∧ SqL K H3 a xs ∧ ∀ p, H3 p = none → Q (.ref p) (upd H3 p (.lst (pickV xs l (some i))))
section
variable {X : Cx} {K : PySem.W.Frag}
theorem pe_stepF0 {e st : Expr} {lo : Option Expr} {te : TE} {tl ts : L2.St → Hp → (Option Int → Hp → Prop) → Prop} {p3 pos : Pos} (he : PE X e te) (hlo : PO X lo tl) (hst : PO X (some st) ts) : PE X (.Subscript e (.Slice lo none (some st) p3) pos) (tStepF X.K te tl ts) := by
  refine ⟨fun pins s σ H Q I h => ?_⟩
  refine Subscript_ (thn (he.run pins s σ H _ I h) fun v s1 ⟨x, H1, I1, r1, q1⟩ => ?_)
  refine wpAny_Slice (thn (hlo.run pins s1 σ H1 _ I1 q1) fun vl s2 ⟨l, H2, I2, pl, q2⟩ => ?_)
  refine thn (po_none.run pins s2 σ H2 (fun o H3 => o = none ∧ H3 = H2) I2 ⟨rfl, rfl⟩) fun vu s3 ⟨u, H3, I3, pu, eu, e3⟩ => ?_
  subst eu e3
  refine thn (hst.run pins s3 σ H3 _ I3 q2) fun vs s4 ⟨o, H4, I4, ps, i, eo, i0, a, xs, ex, hx, q⟩ => ?_
  subst eo ex
  cases r1
  have I5 : Inv X pins σ H4 { s4 with heap := s4.heap.push { cls := .type "slice", data := .fields #[vl, vu, vs] } } := I4.kept (t' := s4.toks) fun b ob q => Heap.get?_push_of_some _ q
  obtain ⟨its, r, ht, hz⟩ := I5.list hx
  have hlen := r.length
  show wpAny (model X.prog X.w) X.A (subscriptTail e (.Slice lo none (some st) p3) (.ref a) (.ref s4.heap.objs.size)) (EP X pins σ Q) X.xe { s4 with heap := s4.heap.push { cls := .type "slice", data := .fields #[vl, vu, vs] } }
  refine tail_any (ops := [.ref a, .ref s4.heap.objs.size]) ht.isList.typeIs (PySem.slot_list_getitem.lookup) ?_ (by with_unfolding_all rfl)
  refine wpAny_getItem_list_slice ht.isList (Heap.IsSliceOf.new _ vl vu vs) pl pu ps (fun z => i0 (Option.some.inj z)) ?_ (by rw [List.size_toArray]; omega)
  have q := q _ (I5.hok.fresh (Nat.le_refl _))
  have e1 : (slicePick its.toArray l none (some i)) = ((sliceRange (sliceBounds l none (some i) xs.length).1 (sliceBounds l none (some i) xs.length).2.1 (sliceBounds l none (some i) xs.length).2.2).filterMap (its.toArray[·]?)).toArray := by
    unfold slicePick
    rw [List.size_toArray, ← hlen]
  have hsz := slicePick_size_le its.toArray l none (some i)
  rw [e1] at hsz ⊢
  have rv : Vals (pickV xs l (some i)) _ := pick_vals r _
  refine ⟨.ref _, _, I5.laid (t' := s4.toks) (o := .lst (pickV xs l (some i))) (fun b ob q => Heap.get?_push_of_some _ q) (Nat.le_refl _) ?_, rfl, q⟩
  refine ⟨?_, _, 0, rv, Heap.get?_push_size _ rfl⟩
  have := rv.length
  rw [List.size_toArray, List.size_toArray] at hsz
  omega
theorem pe_stepF {e st : Expr} {lo : Option Expr} {te : TE} {tl ts : L2.St → Hp → (Option Int → Hp → Prop) → Prop} {p3 pos : Pos} (he : PE X e te) (hlo : PO X lo tl) (hst : PO X (some st) ts) (h : X.K = K := by rfl) : PE X (.Subscript e (.Slice lo none (some st) p3) pos) (tStepF K te tl ts) := h ▸ pe_stepF0 he hlo hst
end
/-- every second one of an even many -/
theorem pick_even {xs : List V} {n : Nat} (h : xs.length = 2 * n) : pickV xs none (some 2) = (List.range n).map fun i => xs.getD (2 * i) .non := by
  unfold pickV
  rw [h]
  have e : sliceRange (sliceBounds none none (some 2) (2 * n)).1 (sliceBounds none none (some 2) (2 * n)).2.1 (sliceBounds none none (some 2) (2 * n)).2.2 = (List.range n).map (2 * ·) := by
    show sliceRange 0 (((2 * n : Nat)) : Int) 2 = _
    unfold sliceRange
    have hc : (if (2 : Int) > 0 then (if (0 : Int) < ((2 * n : Nat) : Int) then (((2 * n : Nat) : Int) - 0 + 2 - 1) / 2 else 0) else (if (0 : Int) > ((2 * n : Nat) : Int) then (0 - ((2 * n : Nat) : Int) - 2 - 1) / (-2) else 0)).toNat = n := by
      rw [if_pos (by decide)]
      split <;> omega
    show (List.range (if (2 : Int) > 0 then _ else _ : Int).toNat).map _ = _
    rw [hc]
    exact List.map_congr_left fun k _ => by omega
  rw [e, List.filterMap_map]
  have : ∀ is : List Nat, (∀ i ∈ is, i < n) → is.filterMap ((fun i => xs[i]?) ∘ (2 * ·)) = is.map fun i => xs.getD (2 * i) .non := by
    intro is
    induction is with
    | nil => intro _; rfl
    | cons i is ih =>
      intro hi
      have li := hi i List.mem_cons_self
      have g : xs[2 * i]? = some (xs.getD (2 * i) .non) := by rw [List.getD_eq_getElem?_getD, List.getElem?_eq_getElem (show 2 * i < xs.length by omega)]; rfl
      rw [List.filterMap_cons_some (b := xs.getD (2 * i) .non) (by exact g), List.map_cons, ih fun j hj => hi j (List.mem_cons_of_mem _ hj)]
  exact this _ fun i hi => List.mem_range.mp hi
theorem pick_odd {xs : List V} {n : Nat} (h : xs.length = 2 * n) (n1 : 1 ≤ n) : pickV xs (some 1) (some 2) = (List.range n).map fun i => xs.getD (2 * i + 1) .non := by
  unfold pickV
  rw [h]
  have e : sliceRange (sliceBounds (some 1) none (some 2) (2 * n)).1 (sliceBounds (some 1) none (some 2) (2 * n)).2.1 (sliceBounds (some 1) none (some 2) (2 * n)).2.2 = (List.range n).map (2 * · + 1) := by
    have e1 : sliceBounds (some 1) none (some 2) (2 * n) = (1, ((2 * n : Nat) : Int), 2) := by
      have hm : max (0 : Int) (min 1 ((2 * n : Nat) : Int)) = 1 := by omega
      show (max (0 : Int) (min 1 ((2 * n : Nat) : Int)), ((2 * n : Nat) : Int), (2 : Int)) = _
      rw [hm]
    rw [e1]
    show sliceRange 1 (((2 * n : Nat)) : Int) 2 = _
    unfold sliceRange
    have hc : (if (2 : Int) > 0 then (if (1 : Int) < ((2 * n : Nat) : Int) then (((2 * n : Nat) : Int) - 1 + 2 - 1) / 2 else 0) else (if (1 : Int) > ((2 * n : Nat) : Int) then (1 - ((2 * n : Nat) : Int) - 2 - 1) / (-2) else 0)).toNat = n := by
      rw [if_pos (by decide)]
      split <;> omega
    show (List.range (if (2 : Int) > 0 then _ else _ : Int).toNat).map _ = _
    rw [hc]
    exact List.map_congr_left fun k _ => by omega
  rw [e, List.filterMap_map]
  have : ∀ is : List Nat, (∀ i ∈ is, i < n) → is.filterMap ((fun i => xs[i]?) ∘ (2 * · + 1)) = is.map fun i => xs.getD (2 * i + 1) .non := by
    intro is
    induction is with
    | nil => intro _; rfl
    | cons i is ih =>
      intro hi
      have li := hi i List.mem_cons_self
      have g : xs[2 * i + 1]? = some (xs.getD (2 * i + 1) .non) := by rw [List.getD_eq_getElem?_getD, List.getElem?_eq_getElem (show 2 * i + 1 < xs.length by omega)]; rfl
      rw [List.filterMap_cons_some (b := xs.getD (2 * i + 1) .non) (by exact g), List.map_cons, ih fun j hj => hi j (List.mem_cons_of_mem _ hj)]
  exact this _ fun i hi => List.mem_range.mp hi
end Pot

namespace Pot
open PySem PySem.Spec PyProof.Rows L2
open Sem (wp)
/-! ### enumerate of a zip of two lists: the zip's own pairs stay held by those of enumerate -/
abbrev ZRec (hh : Heap) (zz ti tu : Addr) (g0 g1 : Value) : Prop :=
  hh.get? zz = some { cls := .type "zip", dict := none, data := .fields #[g0, g1, .bool false, .ref ti, .ref tu], slots := #[] }
/-- a zip over the lists m1 and m2 that has gone i turns -/
def ZAt (hh : Heap) (zz ti tu j1 j2 m1 m2 : Addr) (i : Nat) : Prop :=
  (IsZip hh zz ti tu .none ∨ ∃ tq ff, IsZipHeld hh zz ti tu tq ff) ∧ IsPair hh ti (.ref j1) (.ref j2) ∧ (∃ p q, IsPair hh tu p q) ∧ hh.IsListIter j1 m1 i ∧ hh.IsListIter j2 m2 i
theorem ZAt.keep {hh h2 : Heap} {zz ti tu j1 j2 m1 m2 : Addr} {i : Nat} (Z : ZAt hh zz ti tu j1 j2 m1 m2 i) (k : ∀ b ∈ [zz, ti, tu, j1, j2], ∀ o, hh.get? b = some o → h2.get? b = some o) : ZAt h2 zz ti tu j1 j2 m1 m2 i := by
  obtain ⟨z0, zi, ⟨p, q, zu⟩, z1, z2⟩ := Z
  refine ⟨?_, k ti (by simp) _ zi, ⟨p, q, k tu (by simp) _ zu⟩, z1.at fun o e => k j1 (by simp) o e, z2.at fun o e => k j2 (by simp) o e⟩
  rcases z0 with e | ⟨tq, ff, e⟩
  · exact .inl (k zz (by simp) _ e)
  · exact .inr ⟨tq, ff, k zz (by simp) _ e⟩
theorem la_any {prog : Program} {w : World} {A : Around} {E : Value → Shared → Prop} {s : Shared} {a : Addr} {Q : Option Obj → Shared → Prop} (h : Q (s.heap.get? a) s) : wpAny (model prog w) A (loadIfAlive a) Q E s := fun _ _ _ => h
section
variable {prog : Program} {w : World} {A : Around} {E : Value → Shared → Prop} {s : Shared} {zz ti tu j1 j2 m1 m2 : Addr} {i : Nat} {us ws : Array Value}
theorem own_dead {tq : Addr} {g1 : Value} {Q : Bool → Shared → Prop} (r0 : ZRec s.heap zz ti tu (rawInt tq) g1) (dd : s.heap.get? tq = none) (q : Q true s) : wpAny (model prog w) A (Builtin.SmallTypes.ownedTupleIsFree (.ref zz)) Q E s := by
  unfold Builtin.SmallTypes.ownedTupleIsFree
  refine wpAny_bind (wpAny_field r0 rfl (x := rawInt tq) rfl ?_)
  show wpAny _ _ (loadIfAlive ((tq : Int).toNat) >>= _) _ _ _
  rw [Int.toNat_natCast]
  refine wpAny_bind (la_any ?_)
  rw [dd]
  exact wpAny_pure q
theorem zn_dead {tq : Addr} {ff : Bool} {x y p q : Value} {Q : Value → Shared → Prop} (ap : ZipApart zz ti tu j1 j2 m1 m2) (r0 : IsZipHeld s.heap zz ti tu tq ff) (dd : s.heap.get? tq = none)
    (ri : IsPair s.heap ti (.ref j1) (.ref j2)) (ru : IsPair s.heap tu p q) (c1 : s.heap.IsListIter j1 m1 i) (c2 : s.heap.IsListIter j2 m2 i) (e1 : s.heap.IsList m1 us) (e2 : s.heap.IsList m2 ws) (hx : us[i]? = some x) (hy : ws[i]? = some y)
    (hQ : ∀ h2, ZAt h2 zz ti tu j1 j2 m1 m2 (i + 1) → IsPair h2 s.heap.objs.size x y → h2.objs.size = s.heap.objs.size + 1 →
      (∀ c o, c ≠ zz → c ≠ tu → c ≠ j1 → c ≠ j2 → s.heap.get? c = some o → h2.get? c = some o) → Q (.ref s.heap.objs.size) { s with heap := h2 }) :
    wpAny (model prog w) A (Builtin.«zip.__next__» ⟨[.ref zz], []⟩) (fun fin s2 => ∃ v, fin = .done (.ret v) ∧ Q v s2) E s := by
  show wpAny _ _ (field (.ref zz) 2 >>= _) _ _ _
  refine wpAny_bind (wpAny_field r0 rfl (x := .bool false) rfl ?_)
  show wpAny _ _ (field (.ref zz) 3 >>= _) _ _ _
  refine wpAny_bind (wpAny_field r0 rfl (x := .ref ti) rfl ?_)
  refine wpAny_bind (wpAny_seqItems ri rfl ?_)
  show wpAny _ _ (Builtin.SmallTypes.ownedTupleIsFree (.ref zz) >>= _) _ _ _
  refine wpAny_bind (own_dead r0 dd ?_)
  simp only [if_true]
  refine wpAny_bind (wpAny_rule ?_)
  refine wpAny_bind (wpAny_field r0 rfl (x := .ref tu) rfl ?_)
  refine wpAny_bind (wpAny_setField_rec r0 (by simp) fun k1 r1 b1 => ?_)
  replace r1 : ZRec k1 zz ti tu .ellipsis (.bool ff) := r1
  refine wpAny_bind ?_
  simp only [List.zipIdx_cons, List.zipIdx_nil, List.forIn_cons, List.forIn_nil]
  refine wpAny_bind (wpAny_bind (wpAny_onRaise ?_))
  show wpAny _ _ (Builtin.SmallTypes.nextOf (.ref j1) >>= _) _ _ _
  refine wpAny_bind (wpAny_nextOf_list_item (c1.extBut b1.extBut ap.i1z) (e1.extBut b1.extBut ap.l1z) hx fun k2 f1 b2 => wpAny_pure ?_)
  have u2 : IsPair k2 tu p q := b2.extBut _ _ ap.TOi1 (b1.extBut _ _ ap.TOz ru)
  refine wpAny_bind (wpAny_seqItems u2 rfl ?_)
  refine wpAny_bind (wpAny_updateSeq_pair u2 fun k3 u3 b3 => ?_)
  replace u3 : IsPair k3 tu x q := u3
  refine wpAny_bind (wpAny_letGo (wpAny_pure ?_))
  refine wpAny_bind (wpAny_bind (wpAny_onRaise ?_))
  show wpAny _ _ (Builtin.SmallTypes.nextOf (.ref j2) >>= _) _ _ _
  refine wpAny_bind (wpAny_nextOf_list_item (((c2.extBut b1.extBut ap.i2z).extBut b2.extBut ap.i12.symm).extBut b3.extBut ap.TOi2.symm) (((e2.extBut b1.extBut ap.l2z).extBut b2.extBut ap.l2i1).extBut b3.extBut ap.l2TO) hy fun k4 f2 b4 => wpAny_pure ?_)
  have u4 : IsPair k4 tu x q := b4.extBut _ _ ap.TOi2 u3
  refine wpAny_bind (wpAny_seqItems u4 rfl ?_)
  refine wpAny_bind (wpAny_updateSeq_pair u4 fun k5 u5 b5 => ?_)
  replace u5 : IsPair k5 tu x y := u5
  refine wpAny_bind (wpAny_letGo (wpAny_pure (wpAny_pure ?_)))
  refine wpAny_bind (wpAny_seqItems u5 rfl ?_)
  refine wpAny_bind (wpAny_newTuple ?_)
  have sz : k5.objs.size = s.heap.objs.size := by rw [b5.1, b4.1, b3.1, b2.1, b1.1]
  have r5 : ZRec k5 zz ti tu .ellipsis (.bool ff) := b5.extBut _ _ ap.TOz.symm (b4.extBut _ _ ap.i2z.symm (b3.extBut _ _ ap.TOz.symm (b2.extBut _ _ ap.i1z.symm r1)))
  have kk : ∀ c o, c ≠ zz → c ≠ tu → c ≠ j1 → c ≠ j2 → s.heap.get? c = some o → k5.get? c = some o := fun c o n1 n2 n3 n4 e =>
    b5.extBut _ _ n2 (b4.extBut _ _ n4 (b3.extBut _ _ n2 (b2.extBut _ _ n3 (b1.extBut _ _ n1 e))))
  have f1 : k5.IsListIter j1 m1 (i + 1) := ((f1.extBut b3.extBut ap.TOi1.symm).extBut b4.extBut ap.i12).extBut b5.extBut ap.TOi1.symm
  have f2 : k5.IsListIter j2 m2 (i + 1) := f2.extBut b5.extBut ap.TOi2.symm
  have zl : zz < k5.objs.size := Heap.lt_size r5
  show wpAny _ _ (Builtin.SmallTypes.ownedTupleHandOut (.ref zz) (.ref k5.objs.size) >>= _) _ _ _
  refine wpAny_bind ?_
  unfold Builtin.SmallTypes.ownedTupleHandOut
  have r6 : ZRec (k5.push { cls := .type "tuple", data := .seq #[x, y] }) zz ti tu .ellipsis (.bool ff) := Heap.get?_push_of_some _ r5
  refine wpAny_bind (wpAny_setField_rec r6 (by simp) fun k7 r7 b7 => ?_)
  replace r7 : ZRec k7 zz ti tu (rawInt k5.objs.size) (.bool ff) := r7
  refine wpAny_setField_rec r7 (by simp) fun k8 r8 b8 => ?_
  replace r8 : ZRec k8 zz ti tu (rawInt k5.objs.size) (.bool false) := r8
  have up : ∀ c o, c ≠ zz → k5.get? c = some o → k8.get? c = some o := fun c o n1 e => b8.extBut _ _ n1 (b7.extBut _ _ n1 (Heap.get?_push_of_some _ e))
  have t8 : IsPair k8 k5.objs.size x y := b8.extBut _ _ (Nat.ne_of_gt zl) (b7.extBut _ _ (Nat.ne_of_gt zl) (Heap.get?_push_size _ rfl))
  have s8 : k8.objs.size = k5.objs.size + 1 := by rw [b8.1, b7.1, Heap.size_push]
  rw [sz] at r8 t8 s8
  refine wpAny_pure ⟨_, rfl, ?_⟩
  show Q (.ref k5.objs.size) _
  rw [sz]
  exact hQ k8 ⟨.inr ⟨_, false, r8⟩, up _ _ ap.TIz (kk _ _ ap.TIz ap.TITO ap.TIi1 ap.TIi2 ri), ⟨x, y, up _ _ ap.TOz u5⟩, f1.at fun o e => up _ o ap.i1z e, f2.at fun o e => up _ o ap.i2z e⟩ t8 s8 fun c o n1 n2 n3 n4 e => up c o n1 (kk c o n1 n2 n3 n4 e)
theorem zn_item {x y : Value} {Q : Value → Shared → Prop} (ap : ZipApart zz ti tu j1 j2 m1 m2) (Z : ZAt s.heap zz ti tu j1 j2 m1 m2 i) (e1 : s.heap.IsList m1 us) (e2 : s.heap.IsList m2 ws) (hx : us[i]? = some x) (hy : ws[i]? = some y)
    (hQ : ∀ h2, ZAt h2 zz ti tu j1 j2 m1 m2 (i + 1) → IsPair h2 s.heap.objs.size x y → h2.objs.size = s.heap.objs.size + 1 →
      (∀ c o, c ≠ zz → c ≠ tu → c ≠ j1 → c ≠ j2 → s.heap.get? c = some o → h2.get? c = some o) → Q (.ref s.heap.objs.size) { s with heap := h2 }) :
    wpAny (model prog w) A (Builtin.«zip.__next__» ⟨[.ref zz], []⟩) (fun fin s2 => ∃ v, fin = .done (.ret v) ∧ Q v s2) E s := by
  obtain ⟨z0, zi, ⟨p, q, zu⟩, z1, z2⟩ := Z
  rcases z0 with r0 | ⟨tq, ff, r0⟩
  · refine zip_next_item ap r0 zi zu z1 z2 e1 e2 hx hy fun h2 a1 a2 a3 a4 a5 a6 a7 => hQ h2 ⟨.inr ⟨_, false, a1⟩, a7 _ _ ap.TIz ap.TITO ap.TIi1 ap.TIi2 zi, ⟨_, _, a2⟩, a3, a4⟩ a5 a6 a7
  · cases hd : s.heap.get? tq with
    | none => exact zn_dead ap r0 hd zi zu z1 z2 e1 e2 hx hy hQ
    | some oo => exact zip_next_item_held ap r0 hd zi z1 z2 e1 e2 hx hy fun h2 a1 a3 a4 a5 a6 a7 => hQ h2 ⟨.inr ⟨_, true, a1⟩, a7 _ _ ap.TIz ap.TIi1 ap.TIi2 zi, ⟨p, q, a7 _ _ ap.TOz ap.TOi1 ap.TOi2 zu⟩, a3, a4⟩ a5 a6 fun c o n1 _ n3 n4 e => a7 c o n1 n3 n4 e
theorem zn_end {Q : Fin → Shared → Prop} (no : A.handled = none) (ap : ZipApart zz ti tu j1 j2 m1 m2) (Z : ZAt s.heap zz ti tu j1 j2 m1 m2 i) (e1 : s.heap.IsList m1 us) (e2 : s.heap.IsList m2 ws) (hx : us[i]? = none)
    (hE : ∀ h2 e, (∀ c o, c ≠ zz → c ≠ tu → c ≠ j1 → c ≠ j2 → s.heap.get? c = some o → h2.get? c = some o) → (∃ o, h2.get? e = some o ∧ o.cls = .type "StopIteration") → E (.ref e) { s with heap := h2 }) :
    wpAny (model prog w) A (Builtin.«zip.__next__» ⟨[.ref zz], []⟩) Q E s := by
  obtain ⟨z0, zi, ⟨p, q, zu⟩, z1, z2⟩ := Z
  rcases z0 with r0 | ⟨tq, ff, r0⟩
  · exact zip_next_end no ap r0 zi zu z1 z2 e1 e2 (.inl hx) hE
  · cases dd : s.heap.get? tq with
    | some oo => exact zip_next_end_held no ap r0 dd zi z1 z2 e1 e2 (.inl hx) fun h2 e k => hE h2 e fun c o n1 _ n3 n4 => k c o n1 n3 n4
    | none =>
      show wpAny _ _ (field (.ref zz) 2 >>= _) _ _ _
      refine wpAny_bind (wpAny_field r0 rfl (x := .bool false) rfl ?_)
      show wpAny _ _ (field (.ref zz) 3 >>= _) _ _ _
      refine wpAny_bind (wpAny_field r0 rfl (x := .ref ti) rfl ?_)
      refine wpAny_bind (wpAny_seqItems zi rfl ?_)
      show wpAny _ _ (Builtin.SmallTypes.ownedTupleIsFree (.ref zz) >>= _) _ _ _
      refine wpAny_bind (own_dead r0 dd ?_)
      simp only [if_true]
      refine wpAny_bind (wpAny_rule ?_)
      refine wpAny_bind (wpAny_field r0 rfl (x := .ref tu) rfl ?_)
      refine wpAny_bind (wpAny_setField_rec r0 (by simp) fun k1 r1 b1 => ?_)
      replace r1 : ZRec k1 zz ti tu .ellipsis (.bool ff) := r1
      refine wpAny_bind ?_
      simp only [List.zipIdx_cons, List.zipIdx_nil, List.forIn_cons, List.forIn_nil]
      refine wpAny_bind (wpAny_bind (wpAny_onRaise ?_))
      show wpAny _ _ (Builtin.SmallTypes.nextOf (.ref j1) >>= _) _ _ _
      refine wpAny_bind (wpAny_nextOf_list_end no (z1.extBut b1.extBut ap.i1z) (e1.extBut b1.extBut ap.l1z) hx fun k2 e b2 he => ?_)
      obtain ⟨oe, h1, hc⟩ := he
      have r2 : ZRec k2 zz ti tu .ellipsis (.bool ff) := b2 _ _ ap.i1z.symm r1
      have ez : e ≠ zz := fun z => by subst z; rw [r2] at h1; cases h1; simp at hc
      refine wpAny_setField_rec r2 (by simp) fun k3 _ b3 => hE k3 e (fun c o n1 _ n3 _ z => b3.extBut _ _ n1 (b2 _ _ n3 (b1.extBut _ _ n1 z))) ⟨oe, b3.extBut _ _ ez h1, hc⟩
theorem ezn_item {ee : Addr} {c : Int} {old x y : Value} {Q : Option Value → Shared → Prop} (ap : ZipApart zz ti tu j1 j2 m1 m2) (ne : ee ∉ [zz, ti, tu, j1, j2]) (he : IsEnum s.heap ee zz c old) (Z : ZAt s.heap zz ti tu j1 j2 m1 m2 i)
    (e1 : s.heap.IsList m1 us) (e2 : s.heap.IsList m2 ws) (hx : us[i]? = some x) (hy : ws[i]? = some y)
    (hQ : ∀ h2 tk, IsEnumOut h2 ee zz (c + 1) (.ref s.heap.objs.size) (s.heap.objs.size + 1) → ZAt h2 zz ti tu j1 j2 m1 m2 (i + 1) → IsPair h2 s.heap.objs.size x y →
      IsPair h2 (s.heap.objs.size + 1) (.int c tk) (.ref s.heap.objs.size) → h2.objs.size = s.heap.objs.size + 2 →
      (∀ b o, b ∉ [ee, zz, tu, j1, j2] → s.heap.get? b = some o → h2.get? b = some o) → Q (some (.ref (s.heap.objs.size + 1))) { s with heap := h2, toks := tk + 1 }) :
    wpAny (model prog w) A (pyNext (.ref ee)) Q E s := by
  simp only [List.mem_cons, List.not_mem_nil, or_false, not_or] at ne
  obtain ⟨nz, ni, nu, n1, n2⟩ := ne
  have ty : s.TypeIs (.ref ee) "enumerate" := ⟨_, he, rfl⟩
  obtain ⟨hp, gg, dd, tk, os⟩ := s
  unfold pyNext
  refine wpAny_bind (wpAny_attempt (wpAny_callSpecial?_slot (name := Str.ofString "__next__") ty F.slot_enumerate_next (wpAny_call_entry F.slot_enumerate_next ty F.entry_enumerate_next ?_ (F.args_enumerate_next_1 _))))
  show wpAny _ _ (field (.ref ee) 2 >>= _) _ _ _
  refine wpAny_bind (wpAny_field he rfl (x := .ref zz) rfl ?_)
  have tz : (⟨hp, gg, dd, tk, os⟩ : Shared).TypeIs (.ref zz) "zip" := by
    rcases Z.1 with e | ⟨_, _, e⟩
    · exact ⟨_, e, rfl⟩
    · exact ⟨_, e, rfl⟩
  refine wpAny_bind (wpAny_bind (wpAny_callSpecial?_slot (name := Str.ofString "__next__") tz F.slot_zip_next (wpAny_call_entry F.slot_zip_next tz F.entry_zip_next (zn_item ap Z e1 e2 hx hy fun g1 Z1 p1 s1 k1 => ?_) (F.args_zip_next_1 _))))
  refine wpAny_pure ?_
  replace p1 : IsPair g1 hp.objs.size x y := p1
  replace s1 : g1.objs.size = hp.objs.size + 1 := s1
  have q1 : IsEnum g1 ee zz c old := k1 _ _ nz nu n1 n2 he
  show wpAny _ _ (field (.ref ee) 3 >>= _) _ _ ⟨g1, gg, dd, tk, os⟩
  refine wpAny_bind (wpAny_field q1 rfl (x := rawInt c) rfl ?_)
  show wpAny _ _ (field (.ref ee) 4 >>= _) _ _ ⟨g1, gg, dd, tk, os⟩
  refine wpAny_bind (wpAny_field q1 rfl (x := .none) rfl ?_)
  show wpAny _ _ (mkInt c >>= _) _ _ ⟨g1, gg, dd, tk, os⟩
  refine wpAny_bind (wpAny_mkInt ?_)
  show wpAny _ _ (setField (.ref ee) 3 (rawInt (c + 1)) >>= _) _ _ ⟨g1, gg, dd, tk + 1, os⟩
  refine wpAny_bind (wpAny_setField_rec q1 (by simp) fun g2 q2 b2 => ?_)
  replace b2 : Heap.SameBut ee g1 g2 := b2
  replace q2 : IsEnum g2 ee zz (c + 1) old := q2
  show wpAny _ _ (setField (.ref ee) 4 .none >>= _) _ _ ⟨g2, gg, dd, tk + 1, os⟩
  refine wpAny_bind (wpAny_setField_rec q2 (by simp) fun g3 q3 b3 => ?_)
  replace b3 : Heap.SameBut ee g2 g3 := b3
  replace q3 : IsEnum g3 ee zz (c + 1) old := q3
  show wpAny _ _ (newTuple [.int c tk, .ref hp.objs.size] >>= _) _ _ ⟨g3, gg, dd, tk + 1, os⟩
  refine wpAny_bind (wpAny_newTuple ?_)
  have s3 : g3.objs.size = hp.objs.size + 1 := by rw [b3.1, b2.1, s1]
  have q4 : IsEnum (g3.push { cls := .type "tuple", data := .seq #[.int c tk, .ref hp.objs.size] }) ee zz (c + 1) old := Heap.get?_push_of_some _ q3
  have t4 : IsPair (g3.push { cls := .type "tuple", data := .seq #[.int c tk, .ref hp.objs.size] }) (hp.objs.size + 1) (.int c tk) (.ref hp.objs.size) := by rw [← s3]; exact Heap.get?_push_size _ rfl
  have s4 : (g3.push { cls := .type "tuple", data := .seq #[.int c tk, .ref hp.objs.size] }).objs.size = hp.objs.size + 2 := by rw [Heap.size_push, s3]
  have k4 : ∀ b o, b ≠ ee → g1.get? b = some o → (g3.push { cls := .type "tuple", data := .seq #[.int c tk, .ref hp.objs.size] }).get? b = some o := fun b o n e => Heap.get?_push_of_some _ (b3.extBut b o n (b2.extBut b o n e))
  rw [s3]
  generalize g3.push { cls := .type "tuple", data := .seq #[.int c tk, .ref hp.objs.size] } = g4 at q4 t4 s4 k4 ⊢
  show wpAny _ _ (Builtin.SmallTypes.ownedTupleIsFree (.ref ee) >>= _) _ _ ⟨g4, gg, dd, tk + 1, os⟩
  refine wpAny_bind ?_
  unfold Builtin.SmallTypes.ownedTupleIsFree
  refine wpAny_bind (wpAny_field q4 rfl (x := .none) rfl (wpAny_pure ?_))
  simp only [if_true]
  refine wpAny_bind (wpAny_rule ?_)
  refine wpAny_bind (wpAny_field q4 rfl (x := old) rfl ?_)
  refine wpAny_bind (wpAny_setField_rec q4 (by simp) fun g5 q5 b5 => ?_)
  replace b5 : Heap.SameBut ee g4 g5 := b5
  replace q5 : IsEnum g5 ee zz (c + 1) (.ref hp.objs.size) := q5
  show wpAny _ _ (Builtin.SmallTypes.ownedTupleHandOut (.ref ee) (.ref (hp.objs.size + 1)) >>= _) _ _ ⟨g5, gg, dd, tk + 1, os⟩
  refine wpAny_bind ?_
  unfold Builtin.SmallTypes.ownedTupleHandOut
  refine wpAny_bind (wpAny_setField_rec q5 (by simp) fun g6 q6 b6 => ?_)
  replace b6 : Heap.SameBut ee g5 g6 := b6
  replace q6 : IsEnumOut g6 ee zz (c + 1) (.ref hp.objs.size) (hp.objs.size + 1) := q6
  refine wpAny_setField_rec q6 (by simp) fun g7 q7 b7 => ?_
  replace b7 : Heap.SameBut ee g6 g7 := b7
  replace q7 : IsEnumOut g7 ee zz (c + 1) (.ref hp.objs.size) (hp.objs.size + 1) := q7
  have el : ee < hp.objs.size := Heap.lt_size he
  have up : ∀ b o, b ≠ ee → g4.get? b = some o → g7.get? b = some o := fun b o n e => b7.extBut b o n (b6.extBut b o n (b5.extBut b o n e))
  refine wpAny_bind (wpAny_letGo (wpAny_pure ⟨_, rfl, wpAny_pure (hQ g7 tk q7 ?_ ?_ ?_ ?_ ?_)⟩))
  · refine Z1.keep fun b hb o e => up b o ?_ (k4 b o ?_ e)
    all_goals
      intro z
      subst z
      simp only [List.mem_cons, List.not_mem_nil, or_false] at hb
      rcases hb with z | z | z | z | z
      · exact nz z
      · exact ni z
      · exact nu z
      · exact n1 z
      · exact n2 z
  · exact up _ _ (Nat.ne_of_gt el) (k4 _ _ (Nat.ne_of_gt el) p1)
  · exact up _ _ (Nat.ne_of_gt (Nat.lt_succ_of_lt el)) t4
  · show g7.objs.size = hp.objs.size + 2
    rw [b7.1, b6.1, b5.1, s4]
  · intro b o hb e
    simp only [List.mem_cons, List.not_mem_nil, or_false, not_or] at hb
    obtain ⟨m0, m1, m2, m3, m4⟩ := hb
    exact up b o m0 (k4 b o m0 (k1 b o m1 m2 m3 m4 e))
theorem ezn_end {ee : Addr} {c : Int} {old : Value} {Q : Option Value → Shared → Prop} (no : A.handled = none) (ap : ZipApart zz ti tu j1 j2 m1 m2) (he : IsEnum s.heap ee zz c old) (Z : ZAt s.heap zz ti tu j1 j2 m1 m2 i)
    (e1 : s.heap.IsList m1 us) (e2 : s.heap.IsList m2 ws) (hx : us[i]? = none)
    (hQ : ∀ h2, (∀ b o, b ∉ [ee, zz, tu, j1, j2] → s.heap.get? b = some o → h2.get? b = some o) → Q none { s with heap := h2 }) :
    wpAny (model prog w) A (pyNext (.ref ee)) Q E s := by
  have ty : s.TypeIs (.ref ee) "enumerate" := ⟨_, he, rfl⟩
  unfold pyNext
  refine wpAny_bind (wpAny_attempt (wpAny_callSpecial?_slot (name := Str.ofString "__next__") ty F.slot_enumerate_next (wpAny_call_entry F.slot_enumerate_next ty F.entry_enumerate_next ?_ (F.args_enumerate_next_1 _))))
  show wpAny _ _ (field (.ref ee) 2 >>= _) _ _ _
  refine wpAny_bind (wpAny_field he rfl (x := .ref zz) rfl ?_)
  have tz : s.TypeIs (.ref zz) "zip" := by
    rcases Z.1 with e | ⟨_, _, e⟩
    · exact ⟨_, e, rfl⟩
    · exact ⟨_, e, rfl⟩
  refine wpAny_bind (wpAny_bind (wpAny_callSpecial?_slot (name := Str.ofString "__next__") tz F.slot_zip_next (wpAny_call_entry F.slot_zip_next tz F.entry_zip_next (zn_end no ap Z e1 e2 hx fun g1 e k1 hc => ?_) (F.args_zip_next_1 _))))
  obtain ⟨o, h1, h2⟩ := hc
  refine wpAny_bind (wpAny_isInstance (T := "StopIteration") (b := true) ⟨o, h1, h2⟩ isSubtype_stop ?_)
  refine wpAny_pure (hQ _ fun b o hb z => ?_)
  simp only [List.mem_cons, List.not_mem_nil, or_false, not_or] at hb
  exact k1 b o hb.2.1 hb.2.2.1 hb.2.2.2.1 hb.2.2.2.2 z
end
/-- a turn of enumerate(zip(a, b)): the pair, and the pair of its number with it -/
def ItE (K : PySem.W.Frag) (a b : Addr) : It :=
  ⟨fun i H => ∃ (xs ys : List V) (x y : V), SqL K H a xs ∧ SqL K H b ys ∧ xs[i]? = some x ∧ ys[i]? = some y,
   fun i H v H2 => ∃ T U x y, v = .ref T ∧ H U = none ∧ H T = none ∧ T ≠ U ∧ H2 = upd (upd H U (.tup [x, y])) T (.tup [.int (i : Nat), .ref U]) ∧ (∀ xs, SqL K H a xs → xs[i]? = some x) ∧ ∀ ys, SqL K H b ys → ys[i]? = some y,
   fun i H => ∃ xs ys : List V, SqL K H a xs ∧ SqL K H b ys ∧ xs.length ≤ i ∧ ys.length ≤ i⟩
theorem turn_ez {P : Program} {w : World} {K : PySem.W.Frag} {elts : List Expr} {kk : Nat} {tpos : Pos} {a b ee zz ti tu j1 j2 : Addr} (ap : ZipApart zz ti tu j1 j2 a b) (ne : ee ∉ [zz, ti, tu, j1, j2]) :
    Turn P w K (.Tuple elts kk tpos) (ItE K a b) [ee, zz, ti, tu, j1, j2] ee (fun i h => (∃ old, IsEnum h ee zz ((i : Nat) : Int) old) ∧ ZAt h zz ti tu j1 j2 a b i) where
  mem := by simp
  obj := fun i h st m hm => by
    obtain ⟨⟨old, he⟩, z0, hTI, ⟨x, y, hTO⟩, ⟨o1, e1, _, d1⟩, ⟨o2, e2, _, d2⟩⟩ := st
    simp only [List.mem_cons, List.not_mem_nil, or_false] at hm
    rcases hm with e | e | e | e | e | e
    · subst e; exact ⟨_, he, fun v q => nomatch q⟩
    · subst e
      rcases z0 with z | ⟨_, _, z⟩
      · exact ⟨_, z, fun v q => nomatch q⟩
      · exact ⟨_, z, fun v q => nomatch q⟩
    · subst e; exact ⟨_, hTI, fun v q => nomatch q⟩
    · subst e; exact ⟨_, hTO, fun v q => nomatch q⟩
    · subst e; exact ⟨o1, e1, fun v q => by rw [d1] at q; cases q⟩
    · subst e; exact ⟨o2, e2, fun v q => by rw [d2] at q; cases q⟩
  keep := fun i h h2 st k => by
    obtain ⟨⟨old, he⟩, Z⟩ := st
    exact ⟨⟨old, k ee (by simp) _ he⟩, Z.keep fun b hb => k b (List.mem_cons_of_mem _ hb)⟩
  item := by
    intro X q1 q2 q3 hc i pins s σ H E I hf st hg; subst q1 q2 q3
    obtain ⟨⟨old, he⟩, Z⟩ := st
    obtain ⟨xs, ys, x, y, hqa, hqb, hx, hy⟩ := hg
    obtain ⟨its1, vs1, p1, _⟩ := I.list hqa
    obtain ⟨its2, vs2, p2, _⟩ := I.list hqb
    obtain ⟨w1, hw1, r1⟩ := vs1.get hx
    obtain ⟨w2, hw2, r2⟩ := vs2.get hy
    have el : ee < s.heap.objs.size := Heap.lt_size he
    refine ezn_item ap ne he Z p1.isList p2.isList (x := w1) (y := w2) (by simpa using hw1) (by simpa using hw2) fun h2 tk ho Z2 t1 t2 hz hk => ?_
    refine ⟨_, rfl, wpAny_letOwnedTupleGo_enum (s := { s with heap := h2, toks := tk + 1 }) ho fun h3 he3 sb => ?_⟩
    replace sb : Heap.SameBut ee h2 h3 := sb
    have t1 : IsPair h3 s.heap.objs.size w1 w2 := sb.extBut _ _ (Nat.ne_of_gt el) t1
    have t2 : IsPair h3 (s.heap.objs.size + 1) (.int i tk) (.ref s.heap.objs.size) := sb.extBut _ _ (Nat.ne_of_gt (Nat.lt_succ_of_lt el)) t2
    have new1 : ObjOk X.prog X.w (upd H s.heap.objs.size (.tup [x, y])) h3 s.heap.objs.size (.tup [x, y]) := ⟨by show 2 ≤ sizeLine; decide, [w1, w2], .cons r1 (.cons r2 .nil), ⟨_, t1, rfl, _, rfl⟩⟩
    have I1 : Inv X pins σ (upd H s.heap.objs.size (.tup [x, y])) { s with heap := h3, toks := tk + 1 } :=
      I.turnedNew (ch := [ee, zz, ti, tu, j1, j2]) (fun m o hm q => sb.extBut m o (fun z => hm (by simp [z])) (hk m o (fun z => hm (by simp only [List.mem_cons, List.not_mem_nil, or_false] at z ⊢; rcases z with z | z | z | z | z <;> simp [z])) q)) hf (Nat.le_refl _) new1
    have n1 : H s.heap.objs.size = none := I.hok.fresh (Nat.le_refl _)
    have n2 : H (s.heap.objs.size + 1) = none := I.hok.fresh (Nat.le_succ _)
    have ne1 : s.heap.objs.size + 1 ≠ s.heap.objs.size := Nat.succ_ne_self _
    have new2 : ObjOk X.prog X.w (upd (upd H s.heap.objs.size (.tup [x, y])) (s.heap.objs.size + 1) (.tup [.int (i : Nat), .ref s.heap.objs.size])) h3 (s.heap.objs.size + 1) (.tup [.int (i : Nat), .ref s.heap.objs.size]) :=
      ⟨by show 2 ≤ sizeLine; decide, [.int i tk, .ref s.heap.objs.size], .cons ⟨_, rfl⟩ (.cons rfl .nil), ⟨_, t2, rfl, _, rfl⟩⟩
    have I2 := I1.take (t' := tk + 1) (h' := h3) (it := s.heap.objs.size + 1) (fun _ _ _ e => e) (I.fpOk (Nat.le_succ _) (by rw [upd_ne ne1]; exact n2)) new2
    refine ⟨.ref (s.heap.objs.size + 1), _, I2, rfl, ⟨_, _, x, y, rfl, n1, n2, ne1, rfl, fun l hl => by rw [I.list_inj hl hqa]; exact hx, fun l hl => by rw [I.list_inj hl hqb]; exact hy⟩, ⟨⟨.ref s.heap.objs.size, ?_⟩, ?_⟩, fun m hm => ?_⟩
    · have e1 : ((i + 1 : Nat) : Int) = (i : Int) + 1 := by omega
      rw [e1]; exact he3
    · exact Z2.keep fun b hb o e => sb.extBut b o (fun z => ne (z ▸ hb)) e
    · have hm0 := (hf m hm).1
      have lt : m < s.heap.objs.size := by
        obtain ⟨z0, hTI, ⟨_, _, hTO⟩, ⟨o1, f1, _⟩, ⟨o2, f2, _⟩⟩ := Z
        simp only [List.mem_cons, List.not_mem_nil, or_false] at hm
        rcases hm with e | e | e | e | e | e
        · subst e; exact el
        · subst e
          rcases z0 with z | ⟨_, _, z⟩
          · exact Heap.lt_size z
          · exact Heap.lt_size z
        · subst e; exact Heap.lt_size hTI
        · subst e; exact Heap.lt_size hTO
        · subst e; exact Heap.lt_size f1
        · subst e; exact Heap.lt_size f2
      rw [upd_ne (Nat.ne_of_lt (Nat.lt_succ_of_lt lt)), upd_ne (Nat.ne_of_lt lt)]; exact hm0
  done := by
    intro X q1 q2 q3 hc i pins s σ H E I hf st hg; subst q1 q2 q3
    obtain ⟨⟨old, he⟩, Z⟩ := st
    obtain ⟨xs, ys, hqa, hqb, hx, hy⟩ := hg
    obtain ⟨its1, vs1, p1, _⟩ := I.list hqa
    obtain ⟨its2, vs2, p2, _⟩ := I.list hqb
    have m1 := vs1.length
    exact ezn_end (I.ok.hd hc) ap he Z p1.isList p2.isList (by simp; omega) fun h2 hk => ⟨rfl, inv_ch (tk := s.toks) (ch := [ee, zz, ti, tu, j1, j2]) I (fun m o hm q => hk m o (fun z => hm (by simp only [List.mem_cons, List.not_mem_nil, or_false] at z ⊢; rcases z with z | z | z | z | z <;> simp [z])) q) hf⟩
  self := fun _ _ _ _ _ st fin => let ⟨⟨_, he⟩, _⟩ := st; wpAny_pyIter_enum he fin
theorem en_zip {zz ti tu : Addr} {g0 : Value} :
    Meets (Builtin.«enumerate.__new__» ⟨[.type "enumerate", .ref zz], []⟩) (fun _ R s => IsZip s.heap zz ti tu g0 ∧ R (.ok (.ret (.ref s.heap.objs.size))) { s with heap := s.heap.push { cls := .type "enumerate", data := .fields #[.none, .bool false, .ref zz, rawInt 0, .none, .none] } }) :=
  .of_wp fun prog w A R st hst => by
    obtain ⟨hp, gl, dd, tt, oo⟩ := st; obtain ⟨ok1, fin⟩ := hst; have isub := sub_enumerate
    have go : ∀ {A1 : Around} {E1 : Value → Shared → Prop} {Q1 : Value → Shared → Prop}, Q1 (.ref zz) ⟨hp, gl, dd, tt, oo⟩ → wpAny (model prog w) A1 (pyIter (.ref zz)) Q1 E1 ⟨hp, gl, dd, tt, oo⟩ := fun z => wpAny_pyIter_zip ok1 z
    wp_walk using go
    refine wpAny_stack_any fun stk => wpAny_pure ?_
    split
    · rename_i cc _ _ _ _ _; cases (cc == Value.type "enumerate") <;> (wp_walk using go; exact ⟨_, rfl, fin⟩)
    · wp_walk using go; exact ⟨_, rfl, fin⟩
def iEz (K : PySem.W.Frag) (ta : TA) : TI := fun σ H R => ta σ H fun vs H1 => ∃ a b xs ys, vs = [.ref a, .ref b] ∧ SqL K H1 a xs ∧ SqL K H1 b ys ∧ R (ItE K a b) H1
theorem ap_new {N a b : Nat} (la : a < N) (lb : b < N) : ZipApart (N + 4) (N + 2) (N + 3) N (N + 1) a b :=
  { TIz := show (N + 2 : Nat) ≠ N + 4 by omega, TOz := show (N + 3 : Nat) ≠ N + 4 by omega, i1z := show N ≠ N + 4 by omega, i2z := show (N + 1 : Nat) ≠ N + 4 by omega, TITO := show (N + 2 : Nat) ≠ N + 3 by omega,
    TIi1 := show (N + 2 : Nat) ≠ N by omega, TIi2 := show (N + 2 : Nat) ≠ N + 1 by omega, TOi1 := show (N + 3 : Nat) ≠ N by omega, TOi2 := show (N + 3 : Nat) ≠ N + 1 by omega, i12 := show N ≠ N + 1 by omega,
    l1z := show a ≠ N + 4 by omega, l1TO := show a ≠ N + 3 by omega, l1i1 := show a ≠ N by omega, l1i2 := show a ≠ N + 1 by omega, l2z := show b ≠ N + 4 by omega, l2TO := show b ≠ N + 3 by omega, l2i1 := show b ≠ N by omega, l2i2 := show b ≠ N + 1 by omega }
theorem pi_ez {X : Cx} {e e2 : Expr} {ta : TA} {p pos p3 pos3 tpos : Pos} {elts : List Expr} {kk : Nat} (hg : Gl X "enumerate") (hm : X.mg "enumerate" = none) (gz : Gl X "zip") (mz : X.mg "zip" = none) (ha : PA X [e, e2] ta)
    (hs : starEach [e, e2] X.env = (false, eval e X.env) :: starEach [e2] X.env := by rfl) (hpl : (backTo pos (starEach [e2] X.env)).any (·.1) = false := by rfl)
    (hs3 : starEach [.Call (.Name "zip" p) [e, e2] [] pos] X.env = [(false, eval (.Call (.Name "zip" p) [e, e2] [] pos) X.env)] := by rfl) :
    PI X (.Tuple elts kk tpos) (.Call (.Name "enumerate" p3) [.Call (.Name "zip" p) [e, e2] [] pos] [] pos3) (iEz X.K ta) := by
  refine ⟨fun pins s σ H R I hi => ?_⟩
  refine Call_ (ld_blt I hg hm boot_enumerate ?_)
  refine PyProof.Rows.callWith_type1 (PyProof.Rows.args_cons ?_ rfl) rfl rfl
  refine Call_ (ld_blt I gz mz PyProof.Rows.boot_zip ?_)
  refine PyProof.Rows.callWith_type1 (thn (ha.run pos pins s σ H _ I hi) fun us s1 ⟨vs, H1, I1, r1, q1⟩ => ?_) hs hpl
  obtain ⟨a, b, xs, ys, ex, qa, qb, q⟩ := q1
  subst ex
  cases r1 with
  | cons ra rr =>
    cases rr with
    | cons rb rr =>
      cases rr; cases ra; cases rb
      obtain ⟨its1, _, p1, _⟩ := I1.list qa
      obtain ⟨its2, _, p2, _⟩ := I1.list qb
      refine call_zip_2 p1.isList p2.isList fun h2 hz hTI hTO f1 f2 hsz hk => PyProof.Rows.args_nil ?_
      refine callType_new F.called_enumerate (by decide) (F.typeCall_enumerate_1 _) (F.newCall_enumerate_1 _) (fun obj => F.args_object_init_2 obj _) F.entry_enumerate_new en_zip ⟨hz, ?_⟩
      have he : IsEnum (h2.push { cls := .type "enumerate", data := .fields #[.none, .bool false, .ref (s1.heap.objs.size + 4), rawInt 0, .none, .none] }) h2.objs.size (s1.heap.objs.size + 4) ((0 : Nat) : Int) .none := Heap.get?_push_size _ rfl
      have Z0 : ZAt h2 (s1.heap.objs.size + 4) (s1.heap.objs.size + 2) (s1.heap.objs.size + 3) s1.heap.objs.size (s1.heap.objs.size + 1) a b 0 := ⟨.inl hz, hTI, ⟨_, _, hTO⟩, f1, f2⟩
      refine ⟨⟨_, he, rfl⟩, wpAny_pyIter_enum he ⟨h2.objs.size, [h2.objs.size, s1.heap.objs.size + 4, s1.heap.objs.size + 2, s1.heap.objs.size + 3, s1.heap.objs.size, s1.heap.objs.size + 1], _, _, H1, rfl, I1.kept (t' := s1.toks) (fun m o e => Heap.get?_push_of_some _ (hk m o e)), turn_ez (ap_new p1.lt p2.lt) ?_, ⟨⟨.none, he⟩, Z0.keep fun m _ o e => Heap.get?_push_of_some _ e⟩, fun m hm => ?_, q⟩⟩
      · show h2.objs.size ∉ _
        rw [hsz]
        intro z
        simp only [List.mem_cons, List.not_mem_nil, or_false] at z
        have : ∀ k : Nat, k < 5 → s1.heap.objs.size + 5 ≠ s1.heap.objs.size + k := fun k hk => by omega
        rcases z with z | z | z | z | z
        · exact this 4 (by omega) z
        · exact this 2 (by omega) z
        · exact this 3 (by omega) z
        · exact this 0 (by omega) z
        · exact this 1 (by omega) z
      · have hge : s1.heap.objs.size ≤ m := by
          simp only [List.mem_cons, List.not_mem_nil, or_false] at hm
          rcases hm with e | e | e | e | e | e <;> (rw [e]; first | exact Nat.le_refl _ | exact Nat.le_add_right _ _ | (rw [hsz]; exact Nat.le_add_right _ _))
        exact I1.fpOk hge (I1.hok.fresh hge)
theorem ki_ez {X : Cx} {K : PySem.W.Frag} {e e2 : Expr} {ta : TA} {p pos p3 pos3 tpos : Pos} {elts : List Expr} {kk : Nat} (hg : Gl X "enumerate") (hm : X.mg "enumerate" = none) (gz : Gl X "zip") (mz : X.mg "zip" = none) (ha : PA X [e, e2] ta)
    (hs : starEach [e, e2] X.env = (false, eval e X.env) :: starEach [e2] X.env := by rfl) (hpl : (backTo pos (starEach [e2] X.env)).any (·.1) = false := by rfl)
    (hs3 : starEach [.Call (.Name "zip" p) [e, e2] [] pos] X.env = [(false, eval (.Call (.Name "zip" p) [e, e2] [] pos) X.env)] := by rfl) (h : X.K = K := by rfl) :
    PI X (.Tuple elts kk tpos) (.Call (.Name "enumerate" p3) [.Call (.Name "zip" p) [e, e2] [] pos] [] pos3) (iEz K ta) := h ▸ pi_ez hg hm gz mz ha hs hpl hs3
def YEz (f g : Nat → Option V) : Nat → Hp → V → Hp → Prop := fun i H v H2 => ∃ T U x y, v = .ref T ∧ H U = none ∧ H T = none ∧ T ≠ U ∧ H2 = upd (upd H U (.tup [x, y])) T (.tup [.int (i : Nat), .ref U]) ∧ f i = some x ∧ g i = some y
theorem walk_ez {K : PySem.W.Frag} {a b : Addr} {xs ys : List V} (h1 : ys.length = xs.length) : Walk (ItE K a b) xs.length (fun H => SqL K H a xs ∧ SqL K H b ys) (YEz (fun i => xs[i]?) (fun i => ys[i]?)) := by
  refine ⟨fun i _ hi hs => ⟨xs, ys, xs[i], ys[i]'(by omega), hs.1, hs.2, by simp [hi], by simp [show i < ys.length by omega]⟩, fun _ hs => ⟨xs, ys, hs.1, hs.2, by omega, by omega⟩, fun i H v H2 _ hs y => ?_⟩
  obtain ⟨T, U, x, y, e1, e2, e3, e4, e5, e6, e7⟩ := y
  exact ⟨T, U, x, y, e1, e2, e3, e4, e5, e6 xs hs.1, e7 ys hs.2⟩
end Pot

set_option maxHeartbeats 4000000
namespace L2
open PySem PySem.Spec PyProof.Rows
theorem tuple_mul1W (l : Addr) (items : Array Value) (n : Nat) (dd : Option Addr) (sl : Array (Option Value)) (u : Tok) :
    Meets (Builtin.«tuple.__mul__» ⟨[.ref l, .int 1 u], []⟩) (fun _ R s => s.heap.get? l = some { cls := .type "tuple", dict := dd, data := .seq items n, slots := sl } ∧ R (.ok (.ret (Value.ref l))) s) :=
  .of_wp fun prog w A R s h => by
    obtain ⟨hp, g, d, tk, os⟩ := s
    obtain ⟨hl, h⟩ := h
    have f1 := AutoSeq1.idx_int
    wp_walk using wpAny_loadPart' hl
    exact ⟨_, rfl, h⟩
theorem tuple_mul0W (l : Addr) (items : Array Value) (n : Nat) (dd : Option Addr) (sl : Array (Option Value)) (u : Tok) (c1 : items.isEmpty = false) :
    Meets (Builtin.«tuple.__mul__» ⟨[.ref l, .int 0 u], []⟩) (fun _ R s => s.heap.get? l = some { cls := .type "tuple", dict := dd, data := .seq items n, slots := sl } ∧ R (.ok (.ret (Value.ref s.heap.objs.size))) { s with heap := s.heap.push { cls := Value.type "tuple", data := Data.seq #[] }, toks := s.toks }) :=
  .of_wp fun prog w A R s h => by
    obtain ⟨hp, g, d, tk, os⟩ := s
    obtain ⟨hl, h⟩ := h
    have f1 := AutoSeq1.idx_int
    wp_walk using wpAny_loadPart' hl
    exact ⟨_, rfl, h⟩
/-- tuple * 0, tuple * 1 -/
def rRep01 (K : PySem.W.Frag) : R2 := fun x y H Q => ∃ l k xs, x = .ref l ∧ y = .int k ∧ SqT K H l xs ∧ xs ≠ [] ∧ (k = 0 ∨ k = 1) ∧ (k = 1 → Q (.ref l) H) ∧ (k = 0 → ∀ p, H p = none → Q (.ref p) (upd H p (.tup [])))
section
variable {X : Cx} {K : PySem.W.Frag}
theorem op_rep01 : OpR X (binaryOp .Mult) (rRep01 X.K) := by
  intro pins s σ H x y v u Q I rx ry h
  obtain ⟨l, k, xs, rfl, rfl, hT, hne, hk, q1, q0⟩ := h
  cases rx
  obtain ⟨t, rfl⟩ := ry
  obtain ⟨its, r, ⟨⟨cls, dd, data, sl⟩, ho, hc, n, hd⟩, hs⟩ := I.tuple hT
  simp only at hc hd
  subst hc hd
  have hle : its.length = xs.length := r.length.symm
  have hn : its ≠ [] := fun e => hne (by
    rw [e] at hle
    exact List.eq_nil_of_length_eq_zero hle.symm)
  have hi : its.toArray.isEmpty = false := by
    cases its with
    | nil => exact absurd rfl hn
    | cons a b => rfl
  refine wpAny_binaryOp_repeat_ref (T := "tuple") (U := "int") (by decide) ⟨_, ho, rfl⟩ (fun s' => typeIs_int s' k t) noFill_tuple_mul F.fills_int_mul F.slot_int_rmul repeat_tuple F.slot_int_index.lookup
    (call_meets F.slot_int_rmul (typeIs_int s k t) F.entry_int_rmul (F.args_int_rmul_2 _ _) (int_rmul_tuple k t l its.toArray n dd sl)
      ⟨ho, rfl, ⟨_, ho, rfl⟩, ?_⟩)
  rcases hk with rfl | rfl
  · refine call_meets F.slot_tuple_mul ⟨_, ho, rfl⟩ F.entry_tuple_mul (F.args_tuple_mul_2 _ _) (tuple_mul0W l its.toArray n dd sl t hi) ⟨ho, ?_⟩
    refine ⟨.ref s.heap.objs.size, _, I.laid (t' := s.toks) (o := .tup []) (fun b ob q => Heap.get?_push_of_some _ q) (Nat.le_refl _) ?_, rfl, q0 rfl _ (I.hok.fresh (Nat.le_refl _))⟩
    exact ⟨Nat.zero_le _, [], .nil, IsTup.new _ _⟩
  · refine call_meets F.slot_tuple_mul ⟨_, ho, rfl⟩ F.entry_tuple_mul (F.args_tuple_mul_2 _ _) (tuple_mul1W l its.toArray n dd sl t) ⟨ho, ?_⟩
    exact ⟨.ref l, H, I, rfl, q1 rfl⟩
theorem ko_rep01 (h : X.K = K := by rfl) : OpR X (binaryOp .Mult) (rRep01 K) := h ▸ op_rep01
end
end L2

/-! own classes: repr(x) and str(x) by an own __repr__ and __str__, x in a list by an own __eq__ -/
namespace OwnS
open PySem PySem.Spec PyProof.Rows PySem.Calls
section
variable {prog : Program} {w : World} {A : Around} {E : Value → Shared → Prop} {s : Shared} {K : PySem.W.Frag} {x C f : Addr} {ox : Obj} {odd : Option Obj}
open Builtin Builtin.Str in
theorem str_own {Q : Value → Shared → Prop} (hu : A.in1.in1.units < cLine) (X : K.In s.heap) (I : PySem.W.InstAt s.heap x ox C odd) (hs : PySem.W.findIn K (.ref C) "__str__" = some (some (.ref f))) (hf : PySem.W.isFn K (.ref f) = true)
    (h : wpAny (model prog w) A.in1.in1 (call (.ref f) [.ref x]) (fun r s₁ => ∃ y u, r = .str y u ∧ Q r s₁) E s) : wpAny (model prog w) A (call (.type "str") [.ref x]) Q E s := by
  refine callType_codes (T := "str") (Bi := Builtin.«object.__init__») (Q₁ := fun r s₁ => ∃ y u, r = .str y u ∧ Q r s₁) PySem.F.called_str (PySem.F.typeCall_str_1 _) PySem.F.entry_object_init ?_ ?_
  · refine codeAny_of_tree ?_
    show wpAny _ A.in1.in1 (do checkBuiltinCall "str.__new__" ⟨[.type "str", .ref x], []⟩; again (.builtin "str.__new__" ⟨[.type "str", .ref x], []⟩)) _ _ s
    refine wpAny_bind (wpAny_of_eq (PySem.F.newCall_str_1 _) (wpAny_pure ⟨plainId_quiet (by decide +kernel) _, codeAny_builtin PySem.F.entry_str_new ?_⟩))
    rw [Around.under_plainId (by decide +kernel) _]
    rw [str_new_tree]
    refine wpAny_bind (wpAny_pure ?_)
    refine wpAny_bind (wpAny_of_eq isSubtype_str_str ?_)
    have key : wpAny (model prog w) A.in1.in1 (PySem.Builtin.Str.strOf (.ref x)) (fun r s₁ => ∃ y u, r = .str y u ∧ Q r s₁) E s := by
      unfold PySem.Builtin.Str.strOf
      rw [show isExactStr (.ref x) = false from rfl]
      refine wpAny_bind (m := cRoomFor _ _) (wpAny_cRoomFor hu ?_)
      refine wpAny_bind (m := callSpecial? (.ref x) (Str.ofString "__str__")) (PySem.W.special_fn X I hs (beq_iff_eq.mp hf) (wpAny_mono h (fun r s' z => ?_) fun _ _ y => y))
      obtain ⟨y, u, rfl, z⟩ := z
      exact wpAny_pure ⟨_, _, rfl, z⟩
    exact wpAny_bind (wpAny_mono key (fun r s₁ hr => wpAny_pure hr) fun _ _ y => y)
  · rintro obj s₁ ⟨y, u, rfl, hq⟩
    exact ⟨typeIs_str _ _ _, PySem.F.args_object_init_2 _ _, object_init_meets PySem.F.called_str.init.lookup PySem.F.called_str.made (by decide) prog w A.in1 _ s₁ ⟨typeIs_str _ _ _, rfl, hq⟩⟩
end
section
open MeetsSeq MeetsSeq2 MeetsSeq3 SeqRoads2 GQ
open AutoSeq1 (wpAny_loadPart')
variable {prog : Program} {w : World} {A : Around} {R : Result → Shared → Prop} {E : Value → Shared → Prop}
/-- at each turn the list is read anew: N items, the i-th one is x or not -/
def ListC (prog : Program) (w : World) (A : Around) (E : Value → Shared → Prop) (l : Addr) (x : Value) (N : Nat) (e : Nat → Bool) (I : Shared → Prop) : Prop :=
  ∀ i s, I s → ∃ (items : Array Value) (n : Nat), s.heap.get? l = some { cls := .type "list", data := .seq items n } ∧ items.size = N ∧
    ∀ (h1 : i < items.size), wpAny (model prog w) A.in1 (eqBool items[i] x) (fun r s' => r = e i ∧ I s') E s
theorem in_loopG (l : Addr) (x : Value) (N : Nat) (e : Nat → Bool) (I : Shared → Prop) (hl : ListC prog w A (fun e s' => R (.error e) s') l x N e I) (k : Nat) :
    ∀ i : Nat, N - i = k → i ≤ N → (∀ s, I s → R (.ok (.ret (.bool ((List.range' i (N - i)).any e)))) s) → ∀ s, I s →
      wpAny (model prog w) A.in1 (Builtin.«list.__contains__.loop» ⟨[.ref l, x, rawInt i], []⟩) (FinOf prog w A R) (fun e s' => R (.error e) s') s := by
  induction k with
  | zero =>
    intro i hk hi fin s h
    obtain ⟨items, n, hl1, hs1, _⟩ := hl i _ h
    have hR := fin s h
    rw [show N - i = 0 by omega] at hR
    obtain ⟨hp, g, d, tk, os⟩ := s
    wp_walk using wpAny_loadPart' hl1
    have hi1 : items[((i : Nat) : Int).toNat]? = none := by simp; omega
    rw [hi1]
    wp_walk
    exact hR
  | succ k ih =>
    intro i hk hi fin s h
    obtain ⟨items, n, hl1, hs1, turn⟩ := hl i _ h
    have hlt : i < items.size := by omega
    have ht := turn hlt
    have er : List.range' i (N - i) = i :: List.range' (i + 1) (N - (i + 1)) := by
      rw [show N - i = (N - (i + 1)) + 1 by omega, List.range'_succ]
    rw [er, List.any_cons] at fin
    obtain ⟨hp, g, d, tk, os⟩ := s
    wp_walk using wpAny_loadPart' hl1
    have hi1 : items[((i : Nat) : Int).toNat]? = some items[i] := by simp [hlt]
    have hc : ((i : Int) + 1) = ((i + 1 : Nat) : Int) := by omega
    rw [hi1]
    refine wpAny_bind (wpAny_mono ht (fun r s2 h2 => ?_) fun _ _ x => x)
    obtain ⟨hr, h2⟩ := h2
    subst hr
    cases hb : e i with
    | true =>
      rw [hb] at fin
      have hR := fin s2 h2
      obtain ⟨hp2, g2, d2, tk2, os2⟩ := s2
      wp_walk
      exact hR
    | false =>
      rw [hb] at fin
      have hrec := ih (i + 1) (by omega) (by omega) (fun s q => by simpa using fin s q) s2 h2
      obtain ⟨hp2, g2, d2, tk2, os2⟩ := s2
      wp_walk
      rw [hc]
      exact ⟨plainId_quiet plain_contains_loop _, codeAny_builtin entry_contains_loop (by
        rw [Around.under_plainId plain_contains_loop _]
        exact hrec)⟩
theorem list_inG (l : Addr) (x : Value) (N : Nat) (e : Nat → Bool) (I : Shared → Prop) (hl : ListC prog w A (fun e s' => R (.error e) s') l x N e I)
    (fin : ∀ s, I s → R (.ok (.ret (.bool ((List.range N).any e)))) s) {s : Shared} (h : I s) :
    wpAny (model prog w) A.in1 (Builtin.«list.__contains__» ⟨[.ref l, x], []⟩) (FinOf prog w A R) (fun e s' => R (.error e) s') s := by
  obtain ⟨items, n, hl1, hs1, _⟩ := hl 0 _ h
  have h0 := in_loopG (R := R) l x N e I hl N 0 (by omega) (Nat.zero_le _) (fun s q => by rw [Nat.sub_zero, ← List.range_eq_range']; exact fin s q) s h
  obtain ⟨hp, g, d, tk, os⟩ := s
  wp_walk using wpAny_loadPart' hl1
  exact ⟨plainId_quiet plain_contains_loop _, codeAny_builtin entry_contains_loop (by
    rw [Around.under_plainId plain_contains_loop _]
    exact h0)⟩
theorem in_listG {l : Addr} {x : Value} {N : Nat} {Q : Value → Shared → Prop} (e : Nat → Bool) (I : Shared → Prop) (hl : ListC prog w A E l x N e I)
    (fin : ∀ s, I s → Q (.bool ((List.range N).any e)) s) {s : Shared} (h : I s) : wpAny (model prog w) A (compareOp .In x (.ref l)) Q E s := by
  obtain ⟨items, n, hl1, hs1, _⟩ := hl 0 _ h
  show wpAny _ A (do return .bool (← contains (.ref l) x)) Q E s
  refine wpAny_bind (wpAny_contains_slot ⟨_, hl1, rfl⟩ F.slot_list_contains (wpAny_mono (GQ.call_here (Q := fun v s' => ∃ b, v = .bool b ∧ Q (.bool b) s') F.slot_list_contains ⟨_, hl1, rfl⟩ F.entry_list_contains (F.args_list_contains_2 _ _) ?_) (fun v s' hv => ?_) fun _ _ e => e))
  · exact list_inG (R := wants (fun v s' => ∃ b, v = .bool b ∧ Q (.bool b) s') E) l x N e I hl (fun s q => ⟨_, rfl, fin s q⟩) h
  · obtain ⟨b, rfl, hq⟩ := hv
    exact wpAny_truthy_bool (wpAny_pure hq)
end
end OwnS
namespace L2
open PySem PySem.Spec PyProof.Rows
section
variable {X : Cx} {CX : CXT} {C g : Addr} {n : Nat} {sp : Sp} {E : XK}
/-- repr(x) or str(x), x of the class at C, whose method is at g -/
def rTxtI (C : Addr) (sp : Sp) (E : XK) : List V → Hp → VK → Prop := fun xs H Q => ∃ (a dx : Addr) (fs : List (Str × V)), xs = [V.ref a] ∧ H a = some (.ins C dx fs) ∧ sp [.ref a] H (fun z H' => ∃ y : Str, z = .str y ∧ Q z H') E
theorem call_reprI (hs : PySem.W.findIn X.K (.ref C) "__repr__" = some (some (.ref g))) (hf : PySem.W.isFn X.K (.ref g) = true) (F : FnR X.prog X.w X.K X.mg X.base CX n g sp) (hr : Room (n + 1) X.A) (hx : Passes CX X E) : CallR X (.builtin "repr") (rTxtI C sp E) := by
  intro pins s σ H xs us Q I r h
  obtain ⟨a, dx, fs, rfl, ha, q⟩ := h
  obtain ⟨u, rfl, ru⟩ := r.one
  cases (show u = Value.ref a from ru)
  obtain ⟨mA, J, _⟩ := ins_get I.hok ha
  obtain ⟨od, J, _⟩ := J.look
  obtain ⟨m, hF⟩ := I.fr
  have hr2 : Room n X.A.in1 := hr.in1
  refine PySem.W.repr_K hr2.units0 hF I.ok.mod.kin J hs hf (wpAny_mono (wpAny_call (SlX.run_at (us := [.ref a]) (ws := [.ref a]) F hr2 I.env0.in1 hx I (.cons rfl .nil) q)) (fun w s' z => ?_) fun _ _ x => x)
  obtain ⟨z', H', I', rz, y, ey, qz⟩ := z
  subst ey
  obtain ⟨t, e⟩ := (show ∃ t, w = Value.str y t from rz)
  cases e
  exact ⟨.str y, H', I', ⟨_, rfl⟩, qz⟩
theorem call_strI (hs : PySem.W.findIn X.K (.ref C) "__str__" = some (some (.ref g))) (hf : PySem.W.isFn X.K (.ref g) = true) (F : FnR X.prog X.w X.K X.mg X.base CX n g sp) (hr : Room (n + 2) X.A) (hx : Passes CX X E) : CallR X (.type "str") (rTxtI C sp E) := by
  intro pins s σ H xs us Q I r h
  obtain ⟨a, dx, fs, rfl, ha, q⟩ := h
  obtain ⟨u, rfl, ru⟩ := r.one
  cases (show u = Value.ref a from ru)
  obtain ⟨mA, J, _⟩ := ins_get I.hok ha
  obtain ⟨od, J, _⟩ := J.look
  have hr2 : Room n X.A.in1.in1 := hr.in1.in1
  refine OwnS.str_own hr2.units0 I.kIn J hs hf (wpAny_mono (wpAny_call (SlX.run_at (us := [.ref a]) (ws := [.ref a]) F hr2 I.env0.in1.in1 hx I (.cons rfl .nil) q)) (fun w s' z => ?_) fun _ _ x => x)
  obtain ⟨z', H', I', rz, y, ey, qz⟩ := z
  subst ey
  obtain ⟨t, e⟩ := (show ∃ t, w = Value.str y t from rz)
  cases e
  exact ⟨_, _, rfl, .str y, H', I', ⟨_, rfl⟩, qz⟩
/-- x in a list of other objects of the class at C, whose __eq__ only looks -/
def rInI (K : PySem.W.Frag) (C : Addr) (sp : Sp) (E : XK) : R2 := fun x y H Q => ∃ (a dx : Addr) (fs : List (Str × V)) (l : Addr) (bs : List Addr) (e : Addr → Bool), x = .ref a ∧ y = .ref l ∧ H a = some (.ins C dx fs) ∧ H l = some (.lst (bs.map V.ref)) ∧ PySem.W.notFirst K C (.ref C) = true ∧
  (∀ b ∈ bs, b ≠ a ∧ (∃ dy gs, H b = some (.ins C dy gs)) ∧ ∀ Q2 : VK, Q2 (.bl (e b)) H → sp [.ref b, .ref a] H Q2 E) ∧ Q (.bl (bs.any e)) H
theorem op_inI (hs : PySem.W.findIn X.K (.ref C) "__eq__" = some (some (.ref g))) (hf : PySem.W.isFn X.K (.ref g) = true) (F : FnR X.prog X.w X.K X.mg X.base CX n g sp)
    (hr : Room (n + 1) X.A) (hx : Passes CX X E) : OpR X (compareOp .In) (rInI X.K C sp E) := by
  intro pins s σ H x y v u Q I rx ry h
  obtain ⟨a, dx, fs, l, bs, e, rfl, rfl, ha, hl, hn, hb, q⟩ := h
  cases (show v = Value.ref a from rx)
  cases (show u = Value.ref l from ry)
  have hr2 : Room n X.A.in1 := hr.in1
  refine OwnS.in_listG (N := bs.length) (fun i => e (bs.getD i 0)) (fun s' => Inv X pins σ H s') (fun i s' I' => ?_) (fun s' I' => ⟨.bl _, H, I', rfl, ?_⟩) I
  · have I' : Inv X pins σ H s' := I'
    obtain ⟨z, its, k, r, eg⟩ := I'.hok l _ hl
    have lz : its.length = bs.length := by rw [← r.length, List.length_map]
    refine ⟨its.toArray, k, eg, by rw [List.size_toArray]; exact lz, fun h1 => ?_⟩
    have h1' : i < its.length := by simpa using h1
    have k1 : i < (bs.map V.ref).length := by rw [List.length_map]; omega
    obtain ⟨u, hu, ru⟩ := r.get (List.getElem?_eq_getElem k1)
    rw [List.getElem?_eq_getElem h1'] at hu
    rw [List.getElem_map] at ru
    have eu : its.toArray[i] = Value.ref bs[i] := by
      have : its[i] = u := Option.some.inj hu
      rw [show its.toArray[i] = its[i] by simp, this]
      exact ru
    have mem : bs[i] ∈ bs := List.getElem_mem _
    obtain ⟨ne, ⟨dy, gs, hbi⟩, sq⟩ := hb _ mem
    rw [eu]
    have eg2 : bs.getD i 0 = bs[i] := by rw [List.getD_eq_getElem?_getD, List.getElem?_eq_getElem (by omega)]; rfl
    show wpAny (model X.prog X.w) X.A.in1 (eqBool (Value.ref bs[i]) (Value.ref a)) (fun r s' => r = e (bs.getD i 0) ∧ Inv X pins σ H s') X.xe s'
    rw [eg2]
    refine GQ.eqBool_refG ne ?_
    obtain ⟨mA, J, _⟩ := ins_get I'.hok hbi
    obtain ⟨od, J, _⟩ := J.look
    obtain ⟨mB, J', _⟩ := ins_get I'.hok ha
    obtain ⟨od', J', _⟩ := J'.look
    obtain ⟨m, hF⟩ := I'.fr
    refine PySem.W.cmp_K (op := .Eq) (tb := .ref C) hr2.units0 hF I'.ok.mod.kin J J'.type hn hs hf ?_
    refine wpAny_mono (wpAny_call (SlX.run_at (us := [.ref bs[i], .ref a]) (ws := [.ref bs[i], .ref a]) F hr2 I'.env0.in1 hx I' (.cons rfl (.cons rfl .nil)) (sq (fun z H' => z = .bl (e bs[i]) ∧ H' = H) ⟨rfl, rfl⟩))) (fun w s' z => ?_) fun _ _ x => x
    obtain ⟨z', H', I2, rz, ez, eH⟩ := z
    subst ez eH
    cases (show w = Value.bool (e bs[i]) from rz)
    exact ⟨_, rfl, rfl, I2⟩
  · have : (List.range bs.length).any (fun i => e (bs.getD i 0)) = bs.any e := by
      rw [Bool.eq_iff_iff, List.any_eq_true, List.any_eq_true]
      constructor
      · rintro ⟨i, hi, h⟩
        have hi := List.mem_range.mp hi
        rw [List.getD_eq_getElem?_getD, List.getElem?_eq_getElem hi] at h
        exact ⟨bs[i], List.getElem_mem _, h⟩
      · rintro ⟨b, hb, h⟩
        obtain ⟨i, hi, rfl⟩ := List.getElem_of_mem hb
        refine ⟨i, List.mem_range.mpr hi, ?_⟩
        rw [List.getD_eq_getElem?_getD, List.getElem?_eq_getElem hi]
        exact h
    show Q (V.bl _) H
    rw [this]
    exact q
end
section
variable {X : Cx} {k j : Nat} {C : Addr} {sp : Sp}
theorem kc_reprI (c : Own X.prog X.w X.K X.mg X.base k C "__repr__" sp) (hr : Room j X.A) (hk : k + 1 ≤ j) : CallR X (.builtin "repr") (rTxtI C sp E0) := by
  obtain ⟨g, h1, h2, F⟩ := c.ex
  exact call_reprI h1 h2 F (hr.mono hk) pass0
theorem kc_strI (c : Own X.prog X.w X.K X.mg X.base k C "__str__" sp) (hr : Room j X.A) (hk : k + 2 ≤ j) : CallR X (.type "str") (rTxtI C sp E0) := by
  obtain ⟨g, h1, h2, F⟩ := c.ex
  exact call_strI h1 h2 F (hr.mono hk) pass0
theorem ko_inI (c : Own X.prog X.w X.K X.mg X.base k C "__eq__" sp) (hr : Room j X.A) (hk : k + 1 ≤ j) : OpR X (compareOp .In) (rInI X.K C sp E0) := by
  obtain ⟨g, h1, h2, F⟩ := c.ex
  exact op_inI h1 h2 F (hr.mono hk) pass0
end
end L2

namespace L2
open PySem PySem.Spec PyProof.Rows
/-- an f-string as one word, so that it unifies inside a comprehension -/
def tJn (ts : List TE) : TE := fun σ H Q => tJs ts Str.empty σ H fun out H1 => Q (.str out) H1
theorem pe_joinedT {X : Cx} {v1 v2 : Expr} {rest : List Expr} {ts : List TE} {pos : Pos} (h : PJ X (v1 :: v2 :: rest) ts) : PE X (.JoinedStr (v1 :: v2 :: rest) pos) (tJn ts) := pe_joined h
end L2

namespace L2
open PySem PySem.Spec PyProof.Rows
/-- as ko_eqB, the written part named, for comprehensions -/
theorem ko_eqBK {X : Cx} {K : PySem.W.Frag} {k j : Nat} {C : Addr} {sp : Sp} (c : Own X.prog X.w X.K X.mg X.base k C "__eq__" sp) (hr : Room j X.A) (hk : k ≤ j) (h : X.K = K := by rfl) : OpR X (compareOp .Eq) (rEqB K C sp E0) := by subst h; exact ko_eqB c hr hk
end L2

namespace Pot
open PySem PySem.Spec PyProof.Rows L2
def topS (i : Nat) : Stmt := PySem.Challenge.pw_potround_k56_books_of_their_own.main.body.getD i (.Pass ⟨0, 0, 0, 0⟩)
section
variable {P : Program} {w : World} {K : PySem.W.Frag} {mg : Str → Option Value} {base : Heap}
theorem cmul_mz (a b : Int) {m z : Int} (h0 : 0 < m) (h1 : m < 2 ^ 62) (z0 : 0 ≤ z) (z1 : z < 2 ^ 41) : CMul (a % m + z) b := by
  have p := Int.emod_nonneg a (show m ≠ 0 by omega)
  have q := Int.emod_lt_of_pos a h0
  exact .inl ⟨by omega, by omega⟩
abbrev s__law_take : Stmt := topS 7
def n__law_take : List Str := ["_law_box", "_law_many", "_law_found", "_law_once", "_law_twice", "_law_wide"]
theorem sc__law_take : FnScope n__law_take ["_law_box", "_law_many"] (defScope s__law_take) := ⟨rfl, rfl, rfl, by decide +kernel, rfl, by decide +kernel, by decide +kernel⟩
/-! ### _law_take -/
def spTake : Sp := fun vs H Q _ => ∃ (b : Addr) (m : Int) (n : Nat), vs = [.ref b, .int m] ∧ 0 < m ∧ m < 1073741824 ∧ Bp H b n ∧ n < 2 ^ 40 ∧
  ∀ H' r, 0 ≤ r → r < m → Bp H' b (n + 1) → Sm [b] H H' → Q (.int r) H'
theorem ok_take {f : Addr} {fd : FuncData} {k : Nat} (F : Fun K "_law_take" "_law_take" s__law_take f fd) (T : Txt mg) :
    FnOk P w K mg base CX0 (k + 1) f fd ["_law_box", "_law_many"] spTake := by
  refine F.ok sc__law_take (fun vs H Q E h => ?_) (fun cdv A outer s H vs Q E hr h => ?_)
  · obtain ⟨b, m, n, rfl, _⟩ := h
    rfl
  · obtain ⟨b, m, n, rfl, hm0, hm1, ⟨x, y, z, B, z0, zn, y0, y1⟩, hn, q⟩ := h
    have nd := sc__law_take.nd
    refine ⟨_, (pss_cons (ps_if (pt_cmpR op_gt (pe_ix (kx_list (K := K)) (pv 0) pe_int (fun _ _ => rfl)) pe_int (nomark _))
          (pss_cons (ps_asg (pe_callB call_divmod (by rfl) T.divmod (by decide +kernel) (pa_cons (pe_ix (kx_list (K := K)) (pv 0) pe_int (fun _ _ => rfl)) (pa_cons (pv 1) pa_nil))) (kg_tup (K := K) (n := 2) (pgs_cons (pg_sub (pv 0) pe_int set_list) (pgs_cons (pg_name (i := 2) nd rfl (.inl rfl)) pgs_nil))))
          (pss_one (ps_ret (pv 2))))
          pss_nil)
      (pss_cons (ps_asg (pe_op op_add (pe_ix (kx_list (K := K)) (pv 0) pe_int (fun _ _ => rfl)) pe_int) (pg_sub (pv 0) pe_int set_list))
      (pss_cons (ps_set (i := 3) nd rfl (.inl rfl) (pe_op op_mod (pe_op op_pow (pe_op op_add (pe_ix (kx_list (K := K)) (pv 0) pe_int (fun _ _ => rfl)) (pe_op op_mul pe_int (pe_ix (kx_list (K := K)) (pv 0) pe_int (fun _ _ => rfl)))) pe_int) pe_int))
      (pss_cons (ps_set (i := 4) nd rfl (.inl rfl) (pe_op op_mod (pe_op op_mul (pe_op op_add (pv 3) (pe_ix (kx_list (K := K)) (pv 0) pe_int (fun _ _ => rfl))) (pe_op op_add (pe_op op_add (pe_op op_mod (pv 3) pe_int) pe_int) (pe_ix (kx_list (K := K)) (pv 0) pe_int (fun _ _ => rfl)))) pe_int))
      (pss_cons (ps_set (i := 5) nd rfl (.inl rfl) (pe_op op_mod (pe_op op_add (pe_op op_add (pe_op op_fdivW (pe_ix (kx_list (K := K)) (pv 0) pe_int (fun _ _ => rfl)) pe_int) (pe_op op_mul (pv 4) pe_int)) (pe_ix (kx_list (K := K)) (pv 0) pe_int (fun _ _ => rfl))) pe_int))
      (pss_one (ps_ret (pe_op op_mod (pe_op op_fdiv (pe_op op_mod (pe_op op_add (pe_op op_add (pe_op op_mul (pv 4) pe_int) (pe_op op_mul (pv 5) pe_int)) (pv 3)) pe_int) pe_int) (pv 1))))))))), ?_⟩
    refine ⟨_, rfl, b, _, 0, .int x, rfl, rfl, SqL.of B, rfl, _, _, rfl, rfl, _, rfl, ite2 (fun hb => ?_) (fun hb => ?_)⟩
    · refine ⟨_, rfl, b, _, 0, .int x, rfl, rfl, SqL.of B, rfl, _, rfl, _, _, rfl, ⟨hm0, hm1⟩, fun p np => ?_⟩
      have nb : b ≠ p := ne_of_none B np
      have B1 : upd H p (.tup [.int (x / m), .int (x % m)]) b = some (.lst [.int x, .int y, .int z]) := by rw [upd_ne nb]; exact B
      refine ⟨p, _, rfl, .inl (.inl upd_same), rfl, _, _, rfl, _, rfl, b, _, 0, 0, rfl, rfl, B1, rfl, ?_⟩
      refine ⟨_, _, rfl, rfl, _, rfl, ?_⟩
      exact q _ _ (Int.emod_nonneg _ (by omega)) (Int.emod_lt_of_pos _ hm0) ⟨_, _, _, upd_same, z0, by omega, y0, y1⟩ ((sm_put np).trans (sm_wr List.mem_cons_self))
    · refine ⟨_, rfl, b, _, 2, .int z, rfl, rfl, SqL.of B, rfl, _, _, rfl, rfl, _, rfl, b, _, 2, 2, rfl, rfl, B, rfl, ?_⟩
      have B2 : upd H b (.lst [.int x, .int y, .int (z + 1)]) b = some (.lst [.int x, .int y, .int (z + 1)]) := upd_same
      have s2 : Sm [b] H (upd H b (.lst [.int x, .int y, .int (z + 1)])) := sm_wr List.mem_cons_self
      show tSeq _ _ _ _ (upd H b (.lst [.int x, .int y, .int (z + 1)]))
      generalize upd H b (.lst [.int x, .int y, .int (z + 1)]) = H2 at B2 s2 ⊢
      have t2 : z + 1 < 2 ^ 41 := by omega
      refine ⟨_, rfl, b, _, 1, .int y, rfl, rfl, SqL.of B2, rfl, _, rfl, b, _, 2, .int (z + 1), rfl, rfl, SqL.of B2, rfl, _, _, rfl, rfl, .inr ⟨by omega, by omega⟩, _, _, rfl, rfl, _, _, rfl, rfl, ⟨by decide, by decide, by omega⟩, _, _, rfl, rfl, (by show (0 : Int) < 2147483647; decide), ?_⟩
      refine ⟨_, rfl, _, rfl, b, _, 2, .int (z + 1), rfl, rfl, SqL.of B2, rfl, _, _, rfl, rfl, _, rfl, _, _, rfl, rfl, (by show (0 : Int) < 40009; decide), _, _, rfl, rfl, _, rfl, b, _, 2, .int (z + 1), rfl, rfl, SqL.of B2, rfl, _, _, rfl, rfl, _, _, rfl, rfl, cmul_mz _ _ (by decide) (by decide) (by omega) t2, _, _, rfl, rfl, (by show (0 : Int) < 2147483629; decide), ?_⟩
      refine ⟨_, rfl, b, _, 1, .int y, rfl, rfl, SqL.of B2, rfl, _, _, rfl, rfl, CDivW.of (by decide) (by decide), _, rfl, _, _, rfl, rfl, .inr ⟨by decide, by decide⟩, _, _, rfl, rfl, _, rfl, b, _, 2, .int (z + 1), rfl, rfl, SqL.of B2, rfl, _, _, rfl, rfl, _, _, rfl, rfl, (by show (0 : Int) < 2305843009213693951; decide), ?_⟩
      refine ⟨_, rfl, _, _, rfl, rfl, .inr ⟨by decide, by decide⟩, _, rfl, _, _, rfl, rfl, .inr ⟨by decide, by decide⟩, _, _, rfl, rfl, _, rfl, _, _, rfl, rfl, _, _, rfl, rfl, (by show (0 : Int) < 2305843009213693921; decide), _, _, rfl, rfl, ⟨by decide, by decide⟩, _, rfl, _, _, rfl, rfl, hm0, ?_⟩
      exact q _ _ (Int.emod_nonneg _ (by omega)) (Int.emod_lt_of_pos _ hm0) ⟨_, _, _, B2, by omega, by omega, y0, y1⟩ s2

abbrev s__law_draws : Stmt := topS 6
def n__law_draws : List Str := ["_law_script", "_law_k", "_law_cell"]
theorem sc__law_draws : FnScope n__law_draws ["_law_script", "_law_k"] (defScope s__law_draws) := ⟨rfl, rfl, rfl, by decide +kernel, rfl, by decide +kernel, by decide +kernel⟩
theorem cmul_abs (i : Int) (b : Bool) : CMul i (if b = true then 1 else 0) := .inr (by cases b <;> decide)
def spDraws (K : PySem.W.Frag) : Sp := fun vs H Q _ => ∃ (c : Addr) (ns : List Int) (i : Nat), vs = [.ref c, .int (i : Nat)] ∧ SqL K H c (ns.map V.int) ∧ i < ns.length ∧ i < 1000 ∧
  ∀ H' p, Same H H' → H p = none → Bp H' p 0 → Q (.ref p) H'
theorem ok_draws {f : Addr} {fd : FuncData} {k : Nat} (F : Fun K "_law_draws" "_law_draws" s__law_draws f fd) (T : Txt mg) : FnOk P w K mg base CX0 (k + 1) f fd ["_law_script", "_law_k"] (spDraws K) := by
  refine F.ok sc__law_draws (fun vs H Q E h => ?_) (fun cdv A outer s H vs Q E hr h => ?_)
  · obtain ⟨c, ns, i, rfl, _⟩ := h
    rfl
  · obtain ⟨c, ns, i, rfl, hS, hi, hi1, q⟩ := h
    have nd := sc__law_draws.nd
    have e : (ns.map V.int)[i]? = some (.int ns[i]) := by rw [List.getElem?_map, List.getElem?_eq_getElem hi]; rfl
    refine ⟨_, (pss_cons (ps_set (i := 2) nd rfl (.inl rfl) (pe_ifExp (pt_cmpR op_lt (pv 1) (pe_callB (kc_len (K := K)) (by rfl) T.len PySem.boot_len (pa_cons (pv 0) pa_nil)) (nomark _)) (pe_ix (kx_list (K := K)) (pv 0) (pv 1) (fun _ _ => rfl)) pe_int))
      (pss_one (ps_ret (pe_lst (pa_cons (pe_op op_mul (pe_callB call_abs (by rfl) T.abs (by decide +kernel) (pa_cons (pv 2) pa_nil)) (pe_callTy call_int1 (by rfl) T.int (by decide +kernel) (pa_cons (pe_cmpR op_ge (pe_callB call_abs (by rfl) T.abs (by decide +kernel) (pa_cons (pv 2) pa_nil)) (pe_op op_pow pe_int pe_int) (nomark _)) pa_nil))) (pa_cons (pe_op op_add (pe_op op_add (pe_op op_mod (pv 2) pe_int) (pe_op op_mul pe_int (pv 1))) pe_int) (pa_cons pe_int pa_nil))))))), ?_⟩
    refine ⟨_, rfl, _, rfl, _, _, rfl, .inl ⟨_, hS, rfl⟩, _, _, rfl, rfl, _, rfl, ite2 (fun hb => ?_) (fun hb => ?_)⟩
    · refine ⟨_, rfl, _, rfl, c, _, _, _, rfl, rfl, hS, atI_nat e, ?_⟩
      refine ⟨_, rfl, _, rfl, _, rfl, _, rfl, _, _, rfl, rfl, ⟨by decide, by decide, by decide⟩, _, _, rfl, rfl, .inr ⟨_, rfl, _, _, rfl, rfl, cmul_abs _ _, ?_⟩⟩
      refine ⟨_, rfl, _, _, rfl, rfl, (by show (0 : Int) < 2305843009213693951; decide), _, rfl, _, _, rfl, rfl, .inl ⟨by decide, by decide⟩, _, _, rfl, rfl, _, _, rfl, rfl, (by show 3 ≤ sizeLine; decide), fun p hp => ?_⟩
      have m0 : 0 ≤ ns[i] % 2305843009213693951 := Int.emod_nonneg _ (by decide)
      have m1 : ns[i] % 2305843009213693951 < 2305843009213693951 := Int.emod_lt_of_pos _ (by decide)
      exact q _ p (same_upd hp) hp ⟨_, _, _, upd_same, Int.le_refl _, Int.le_refl _, by omega, by omega⟩
    · exact absurd (decide_eq_true (by rw [List.length_map]; omega)) hb
abbrev s__law_folded : Stmt := topS 5
def n__law_folded : List Str := ["_law_script", "_law_many", "_law_cells", "_law_k", "_law_cell"]
theorem sc__law_folded : FnScope n__law_folded ["_law_script", "_law_many"] (defScope s__law_folded) := ⟨rfl, rfl, rfl, by decide +kernel, rfl, by decide +kernel, by decide +kernel⟩
def spFolded (K : PySem.W.Frag) : Sp := fun vs H Q _ => ∃ (a : Addr) (ns : List Int), vs = [.ref a, .int 3] ∧ SqL K H a (ns.map V.int) ∧ ns.length ≤ 63 ∧
  ∀ (H' : Hp) (p : Addr) (ms : List Int), Same H H' → H p = none → H' p = some (.lst (ms.map V.int)) → 1 ≤ ms.length → ms.length ≤ 3 → Q (.ref p) H'
theorem ok_folded {f : Addr} {fd : FuncData} {k : Nat} (F : Fun K "_law_folded" "_law_folded" s__law_folded f fd) (T : Txt mg) : FnOk P w K mg base CX0 (k + 1) f fd ["_law_script", "_law_many"] (spFolded K) := by
  refine F.ok sc__law_folded (fun vs H Q E h => ?_) (fun cdv A outer s H vs Q E hr h => ?_)
  · obtain ⟨a, ns, rfl, _⟩ := h
    rfl
  · obtain ⟨a, ns, rfl, hS, h63, q⟩ := h
    have nd := sc__law_folded.nd
    have hu64 := hr.units
    refine ⟨_, (pss_cons (ps_set (i := 2) nd rfl (.inl rfl) (pe_callTy (kc_list (K := K)) (by rfl) T.list (by decide +kernel) (pa_cons (pe_slice (kl_list (K := K)) (pv 0) po_none (po_some (pv 1))) pa_nil)))
      (pss_cons (ps_for PassesOwn.never rfl (ki_enum (K := K) (by rfl) T.enumerate (pa_cons (pe_slice (kl_list (K := K)) (pv 0) (po_some (pv 1)) (po_some pe_int)) pa_nil)) (kg_tup (K := K) (n := 2) (pgs_cons (pg_name (i := 3) nd rfl (.inl rfl)) (pgs_cons (pg_name (i := 4) nd rfl (.inl rfl)) pgs_nil)))
          (pss_one (ps_asg (pe_op op_add (pe_ix (kx_list (K := K)) (pv 2) (pe_op op_mod (pv 3) (pv 1)) (fun _ _ => rfl)) (pe_op op_mul (pv 4) (pe_op op_add (pv 3) pe_int))) (pg_sub (pv 2) (pe_op op_mod (pv 3) (pv 1)) set_list))))
      (pss_one (ps_ret (pe_ifExp (pt_cmpR (ko_ne (K := K) hu64) (pv 2) (pe_lst pa_nil) (nomark _)) (pv 2) (pe_lst (pa_cons pe_int pa_nil))))))), ?_⟩
    refine ⟨_, rfl, _, rfl, 3, rfl, a, _, rfl, hS, fun p1 n1 => ?_⟩
    rw [show cutV (ns.map V.int) none (some 3) = (ns.take 3).map V.int by rw [show (3 : Int) = ((3 : Nat) : Int) from rfl, cut_head, List.map_take]]
    refine ⟨p1, _, rfl, .inl (SqL.of upd_same), fun c nc => ?_⟩
    have s1 : Same H (upd (upd H p1 (.lst ((ns.take 3).map V.int))) c (.lst ((ns.take 3).map V.int))) := (same_upd n1).trans (same_upd nc)
    have nc : H c = none := (same_upd n1).free nc
    obtain ⟨ms, em⟩ : ∃ ms, ms = ns.take 3 := ⟨_, rfl⟩
    have l2 : ms.length ≤ 3 := by rw [em, List.length_take]; omega
    have l3 : 3 < ns.length → ms.length = 3 := fun h => by rw [em, List.length_take]; omega
    rw [← em] at s1 ⊢
    have hc : upd (upd H p1 (.lst (ms.map V.int))) c (.lst (ms.map V.int)) c = some (.lst (ms.map V.int)) := upd_same
    generalize upd (upd H p1 (.lst (ms.map V.int))) c (.lst (ms.map V.int)) = H2 at s1 hc ⊢
    have s2 := s1
    refine ⟨_, rfl, _, rfl, 3, rfl, 63, rfl, a, _, rfl, s2.seq hS, fun e ne => ?_⟩
    have ee : upd H2 e (.lst (cutV (ns.map V.int) (some 3) (some 63))) e = some (.lst (cutV (ns.map V.int) (some 3) (some 63))) := upd_same
    have s3 := same_upd (o := .lst (cutV (ns.map V.int) (some 3) (some 63))) ne
    have ce : c ≠ e := ne_of_none hc ne
    have hc := s3 _ _ hc
    have s2 := s2.trans s3
    generalize upd H2 e (.lst (cutV (ns.map V.int) (some 3) (some 63))) = H3 at ee s2 hc ⊢
    rw [cut_map] at ee
    have lcut : ((ns.drop (HT.sIx ns.length 0 (some 3))).take (HT.sIx ns.length ns.length (some 63) - HT.sIx ns.length 0 (some 3))).length ≤ ns.length - 3 := by
      rw [show HT.sIx ns.length 0 (some 3) = min 3 ns.length from HT.sIx_nat _ _ 3, List.length_take, List.length_drop]
      omega
    generalize (ns.drop (HT.sIx ns.length 0 (some 3))).take (HT.sIx ns.length ns.length (some 63) - HT.sIx ns.length 0 (some 3)) = es at ee lcut
    refine ⟨e, _, rfl, SqL.of ee, ?_⟩
    refine for_it (walk_enum (xs := es.map V.int)) (fun i σ H4 => ∃ v3 v4 ms, σ = [some (.ref a), some (.int 3), some (.ref c), v3, v4] ∧ Same H H4 ∧ H4 e = some (.lst (es.map V.int)) ∧ H4 c = some (.lst (ms.map V.int)) ∧ ms.length ≤ 3 ∧ (3 < ns.length → ms.length = 3))
      ⟨none, none, ms, rfl, s2, ee, hc, l2, l3⟩ (fun i σ H4 _ h => by obtain ⟨_, _, _, _, _, h, _⟩ := h; exact SqL.of h) ?_ ?_
    · rintro i x σ H4 H5 hi ⟨v3, v4, ms, rfl, s4, e4, c4, l2, l3⟩ ⟨t, x1, x2, rfl, nt, rfl, g1, g2⟩
      cases g1
      replace g2 : (es.map V.int)[i]? = some x2 := g2
      rw [List.getElem?_map] at g2
      obtain ⟨y, gy, rfl⟩ := Option.map_eq_some_iff.mp g2
      rw [List.length_map] at hi
      have lm : ms.length = 3 := l3 (by omega)
      have s5 := same_upd (o := .tup [.int (i : Nat), .int y]) nt
      refine ⟨t, _, rfl, .inl (.inl upd_same), rfl, _, _, rfl, _, _, rfl, rfl, ?_⟩
      have e5 := s5 _ _ e4
      have c5 := s5 _ _ c4
      have s5 := s4.trans s5
      generalize upd H4 t (.tup [.int (i : Nat), .int y]) = H6 at e5 c5 s5 ⊢
      have em : ((i : Nat) : Int) % 3 = ((i % 3 : Nat) : Int) := by omega
      have lt : i % 3 < ms.length := by omega
      have ga : (ms.map V.int)[i % 3]? = some (.int ms[i % 3]) := by rw [List.getElem?_map, List.getElem?_eq_getElem lt]; rfl
      refine ⟨_, rfl, _, rfl, _, rfl, _, _, rfl, rfl, (by show (0 : Int) < 3; decide), c, _, _, _, rfl, rfl, SqL.of c5, (by rw [em]; exact atI_nat ga), ?_⟩
      refine ⟨_, rfl, _, rfl, _, _, rfl, rfl, _, _, rfl, rfl, .inr ⟨by omega, by omega⟩, _, _, rfl, rfl, ?_⟩
      refine ⟨_, rfl, _, rfl, _, rfl, _, _, rfl, rfl, (by show (0 : Int) < 3; decide), c, _, _, i % 3, rfl, rfl, c5, (by rw [em, List.length_map]; exact Evl.ixN_nat lt), ?_⟩
      refine ⟨_, _, ms.set (i % 3) (ms[i % 3] + y * ((i : Nat) + 2)), rfl, same_put s5 nc, (by rw [upd_ne ce.symm]; exact e5), (by rw [upd_same, List.map_set]), ?_, ?_⟩
      · rw [List.length_set]; exact l2
      · rw [List.length_set]; exact l3
    · rintro σ H4 ⟨v3, v4, ms, rfl, s4, e4, c4, l2, l3⟩
      refine ⟨_, rfl, Nat.zero_le _, fun t nt => ?_⟩
      have s5 := same_upd (o := .lst []) nt
      have f5 : upd H4 t (.lst []) t = some (.lst []) := upd_same
      have c5 := s5 _ _ c4
      have s5 := s4.trans s5
      generalize upd H4 t (.lst []) = H5 at c5 s5 f5 ⊢
      refine ⟨.list (ms.map .int), .list [], .lst (SqL.of c5) (dp_ints ms), .lst (SqL.of f5) .nil, PySem.W.ke_shaped_ints ms, PySem.W.ke_shaped_ints [], _, rfl, ?_⟩
      by_cases e : ms = []
      · subst e
        refine iteF ⟨(by show 1 ≤ sizeLine; decide), fun p np => ?_⟩
        exact q _ p [0] (s5.trans (same_upd np)) (s5.free np) upd_same (by decide) (by decide)
      · have e2 : (!PyData.eqv (.list (ms.map .int)) (.list [])) = true := by
          cases ms with
          | nil => exact absurd rfl e
          | cons _ _ => rfl
        rw [e2]
        exact iteT ⟨_, rfl, q _ c ms s5 nc c5 (List.length_pos_iff.mpr e) l2⟩

abbrev s__law_pick : Stmt := topS 8
def n__law_pick : List Str := ["_law_box", "_law_some"]
theorem sc__law_pick : FnScope n__law_pick ["_law_box", "_law_some"] (defScope s__law_pick) := ⟨rfl, rfl, rfl, by decide +kernel, rfl, by decide +kernel, by decide +kernel⟩
/-- a thing of a text, of a list or of a tuple, drawn -/
def PickQ (K : PySem.W.Frag) (b : Addr) (n : Nat) (H : Hp) (Q : VK) (x : V) : Prop :=
  (∃ z : Str, x = .str z ∧ 0 < z.length ∧ z.length ≤ 1000 ∧ ∀ H' c, Bp H' b (n + 1) → Sm [b] H H' → c ∈ z.cps.toList → Q (.str ⟨#[c]⟩) H') ∨
  (∃ (L : Addr) (xs : List V), x = .ref L ∧ L ≠ b ∧ H L = some (.lst xs) ∧ 0 < xs.length ∧ xs.length ≤ 1000 ∧ ∀ H' (i : Nat) v, xs[i]? = some v → Bp H' b (n + 1) → Sm [b] H H' → Q v H') ∨
  (∃ (L : Addr) (xs : List V), x = .ref L ∧ SqT K H L xs ∧ 0 < xs.length ∧ xs.length ≤ 1000 ∧ ∀ H' (i : Nat) v, xs[i]? = some v → Bp H' b (n + 1) → Sm [b] H H' → Q v H')
def spPick (K : PySem.W.Frag) : Sp := fun vs H Q _ => ∃ (b : Addr) (n : Nat) (x : V), vs = [.ref b, x] ∧ Bp H b n ∧ n < 2 ^ 40 ∧ PickQ K b n H Q x
theorem sqT_bx {H H' : Hp} {b a : Addr} {n : Nat} {xs : List V} (h : SqT K H a xs) (B : Bp H b n) (s : Sm [b] H H') : SqT K H' a xs := by
  obtain ⟨x, y, z, hb, _⟩ := B
  rcases h with (h | ⟨o2, h⟩) | h
  · exact .inl (.inl (sm1_at s (fun e => by rw [e, hb] at h; cases h) h))
  · exact .inl (.inr ⟨o2, sm1_at s (fun e => by rw [e, hb] at h; cases h) h⟩)
  · exact .inr h
theorem ok_pick {f : Addr} {fd : FuncData} {k : Nat} (F : Fun K "_law_pick" "_law_pick" s__law_pick f fd) (T : Txt mg) (c__law_take : Cl P w K mg base (k + 1) "_law_take" spTake) : FnOk P w K mg base CX0 (k + 2) f fd ["_law_box", "_law_some"] (spPick K) := by
  refine F.ok sc__law_pick (fun vs H Q E h => ?_) (fun cdv A outer s H vs Q E hr h => ?_)
  · obtain ⟨b, n, x, rfl, _⟩ := h
    rfl
  · obtain ⟨b, n, x, rfl, B, hn, h⟩ := h
    have nd := sc__law_pick.nd
    refine ⟨_, (pss_one (ps_ret (pe_ix (IxR.or ix_str (IxR.or (kx_list (K := K)) (kx_tup (K := K)))) (pv 1) (pe_cl c__law_take hr (by omega) (by rfl) (pa_cons (pv 0) (pa_cons (pe_callB (kc_len (K := K)) (by rfl) T.len PySem.boot_len (pa_cons (pv 1) pa_nil)) pa_nil))) (fun _ _ => rfl)))), ?_⟩
    rcases h with ⟨z, rfl, z0, z1, q⟩ | ⟨L, xs, rfl, Lb, hL, x0, x1, q⟩ | ⟨L, xs, rfl, hL, x0, x1, q⟩
    · refine ⟨_, rfl, _, rfl, _, rfl, _, _, rfl, ⟨by rw [sizeLine_eq]; omega, rfl⟩, b, _, _, rfl, by omega, by omega, B, hn, fun H' r r0 r1 B' s' => ?_⟩
      obtain ⟨j, rfl⟩ : ∃ j : Nat, r = (j : Int) := ⟨r.toNat, by omega⟩
      have hj : j < z.cps.toList.length := by rw [Array.length_toList]; show j < z.length; omega
      exact .inl ⟨z, j, z.cps.toList[j], rfl, rfl, by rw [sizeLine_eq]; omega, atI_nat (List.getElem?_eq_getElem hj), q _ _ B' s' (List.getElem_mem hj)⟩
    · refine ⟨_, rfl, _, rfl, _, rfl, _, _, rfl, .inl ⟨_, SqL.of hL, rfl⟩, b, _, _, rfl, by omega, by omega, B, hn, fun H' r r0 r1 B' s' => ?_⟩
      obtain ⟨j, rfl⟩ : ∃ j : Nat, r = (j : Int) := ⟨r.toNat, by omega⟩
      have hj : j < xs.length := by omega
      exact .inr (.inl ⟨L, xs, j, xs[j], rfl, rfl, SqL.of (sm_at s' (by simp [Lb]) hL), atI_nat (List.getElem?_eq_getElem hj), q _ j _ (List.getElem?_eq_getElem hj) B' s'⟩)
    · refine ⟨_, rfl, _, rfl, _, rfl, _, _, rfl, .inr ⟨_, hL, rfl⟩, b, _, _, rfl, by omega, by omega, B, hn, fun H' r r0 r1 B' s' => ?_⟩
      obtain ⟨j, rfl⟩ : ∃ j : Nat, r = (j : Int) := ⟨r.toNat, by omega⟩
      have hj : j < xs.length := by omega
      exact .inr (.inr ⟨L, xs, j, xs[j], rfl, rfl, sqT_bx hL B s', atI_nat (List.getElem?_eq_getElem hj), q _ j _ (List.getElem?_eq_getElem hj) B' s'⟩)
theorem ite_te {c : Bool} {ta tb : TE} {σ : L2.St} {H : Hp} {Q0 : VK} (G : V → Hp → Prop) (hx : ∀ Q1 : VK, (∀ x H, G x H → Q1 x H) → c = true → ta σ H Q1) (hy : ∀ Q1 : VK, (∀ x H, G x H → Q1 x H) → c = false → tb σ H Q1) (k : ∀ x H, G x H → Q0 x H) : if c = true then ta σ H Q0 else tb σ H Q0 := by
  cases c with
  | false => rw [if_neg Bool.false_ne_true]; exact hy Q0 k rfl
  | true => rw [if_pos rfl]; exact hx Q0 k rfl
abbrev s__law_some_names : Stmt := topS 9
def n__law_some_names : List Str := ["_law_box", "_law_many", "_law_letters", "_law_found", "_law_k", "_law_rest", "_law_at", "_law_first", "_law_sign"]
theorem sc__law_some_names : FnScope n__law_some_names ["_law_box", "_law_many"] (defScope s__law_some_names) := ⟨rfl, rfl, rfl, by decide +kernel, rfl, by decide +kernel, by decide +kernel⟩
def spSome : Sp := fun vs H Q _ => ∃ (b : Addr) (n : Nat), vs = [.ref b, .int 22] ∧ Bp H b n ∧ n + 2000 < 2 ^ 40 ∧
  ∀ (H' : Hp) (L : Addr) (ys : List Str), Bp H' b (n + 40) → Sm [b] H H' → H L = none → H' L = some (.lst (ys.map V.str)) → ys.length = 22 → (∀ y ∈ ys, Nm y) → Q (.ref L) H'
theorem ok_somen {f : Addr} {fd : FuncData} {k : Nat} (F : Fun K "_law_some_names" "_law_some_names" s__law_some_names f fd) (T : Txt mg) (c__law_take : Cl P w K mg base (k + 1) "_law_take" spTake) (c__law_pick : Cl P w K mg base (k + 2) "_law_pick" (spPick K)) : FnOk P w K mg base CX0 (k + 3) f fd ["_law_box", "_law_many"] spSome := by
  refine F.ok sc__law_some_names (fun vs H Q E h => ?_) (fun cdv A outer s H vs Q E hr h => ?_)
  · obtain ⟨b, n, rfl, _⟩ := h
    rfl
  · obtain ⟨b, n, rfl, B, hn, q⟩ := h
    have nd := sc__law_some_names.nd
    /- 0 _law_box, 1 _law_many, 2 _law_letters, 3 _law_found, 4 _law_k, 5 _law_rest, 6 _law_at, 7 _law_first, 8 _law_sign -/
    refine ⟨_, (pss_cons (ps_asg (pe_tup (pa_cons pe_str (pa_cons (pe_lst pa_nil) pa_nil))) (kg_tup (K := K) (n := 2) (pgs_cons (pg_name (i := 2) nd rfl (.inr rfl)) (pgs_cons (pg_name (i := 3) nd rfl (.inl rfl)) pgs_nil))))
      (pss_cons (ps_set (i := 5) nd rfl (.inl rfl) (ke_join (K := K) pe_str (pe_lc (own := [("_law_k", 4)]) rfl nd (pi_range1 (by rfl) T.range (pa_cons (pe_cl c__law_take hr (by omega) (by rfl) (pa_cons (pv 0) (pa_cons pe_int pa_nil))) pa_nil)) (blkOk_by (N := n__law_some_names) (sc := defScope s__law_some_names) (by decide +kernel)) (fun _ _ _ _ _ => (pg_name (i := 4) nd rfl (.inl rfl))) (fun _ _ _ _ _ => pts_nil) (fun _ _ _ _ _ => (pe_cl c__law_pick hr (by omega) (by rfl) (pa_cons (pv 0) (pa_cons (pv 2) pa_nil)))))))
      (pss_cons (ps_par (i := 6) (j := 7) rfl nd rfl rfl (by decide) rfl rfl (pa_cons (pe_cl c__law_take hr (by omega) (by rfl) (pa_cons (pv 0) (pa_cons (pe_op op_add (pe_callB (kc_len (K := K)) (by rfl) T.len PySem.boot_len (pa_cons (pv 5) pa_nil)) pe_int) pa_nil))) (pa_cons (pe_cl c__law_take hr (by omega) (by rfl) (pa_cons (pv 0) (pa_cons pe_int pa_nil))) pa_nil)) rfl)
      (pss_cons (ps_for PassesOwn.never rfl (pi_range1 (by rfl) T.range (pa_cons (pv 1) pa_nil)) (pg_name (i := 4) nd rfl (.inl rfl))
          (pss_cons (ps_set (i := 8) nd rfl (.inl rfl) (pe_ix ix_str (pv 2) (pe_op op_mod (pe_op op_add (pv 7) (pe_op op_mul pe_int (pv 4))) pe_int) (fun _ _ => rfl)))
          (pss_one (ps_expr (pe_bm PySem.F.plainAttrs_list PySem.F.slot_list_insert PySem.F.type_list_insert mt_insert (pv 3) (pa_cons (pe_cl c__law_take hr (by omega) (by rfl) (pa_cons (pv 0) (pa_cons (pe_op op_add (pv 4) pe_int) pa_nil))) (pa_cons (pe_ifExp (pt_cmpR op_eq (pe_op op_mod (pv 4) pe_int) pe_int (nomark _)) (pv 8) (pe_op op_add_str (pe_op op_add_str (pe_slice sl_str (pv 5) po_none (po_some (pv 6))) (pv 8)) (pe_slice sl_str (pv 5) (po_some (pv 6)) po_none))) pa_nil)))))))
      (pss_one (ps_ret (pv 3))))))), ?_⟩
    have lv := Live.pw B
    have sc : Sm [b] H H := Same.refl _
    obtain ⟨S, eS⟩ : ∃ S, S = [b] := ⟨_, rfl⟩
    have hb : b ∈ S := by rw [eS]; simp
    rw [← eS] at lv
    refine ⟨Nat.zero_le _, fun L nL => ?_⟩
    have nL0 := sm_free sc B.bx nL
    have Lb := B.ne nL
    have fL := off_new (o := .lst []) lv nL
    have lv := lv.put (o := .lst []) nL
    have B := B.put (o := .lst []) nL
    have sc := sc.trans (sm_put (S := [b]) (o := .lst []) nL)
    generalize upd H L (.lst []) = H1 at fL lv B sc  ⊢
    refine ⟨(by show 2 ≤ sizeLine; decide), fun t nt => ?_⟩
    have ft := off_new (o := .tup [.str "abcdefghijklmnopqrstuvwxyz", .ref L]) lv nt
    have lv := lv.put (o := .tup [.str "abcdefghijklmnopqrstuvwxyz", .ref L]) nt
    have B := B.put (o := .tup [.str "abcdefghijklmnopqrstuvwxyz", .ref L]) nt
    have sc := sc.trans (sm_put (S := [b]) (o := .tup [.str "abcdefghijklmnopqrstuvwxyz", .ref L]) nt)
    have fL := (sm_put (S := S) (o := .tup [.str "abcdefghijklmnopqrstuvwxyz", .ref L]) nt) _ _ fL
    generalize upd H1 t (.tup [.str "abcdefghijklmnopqrstuvwxyz", .ref L]) = H2 at ft lv B sc fL ⊢
    refine ⟨t, _, rfl, .inl (.inl (at_off ft)), rfl, _, _, rfl, _, _, rfl, rfl, ?_⟩
    refine ⟨⟨_, rfl⟩, _, rfl, b, 8, _, rfl, (by decide), (by decide), B, by omega, fun H6 sn s0 s1 B4 s4 => ⟨_, rfl, (by omega), (by omega), fun D nD => ?_⟩⟩
    have lv := lv.box B4.bx s4
    have sc := sc.trans s4
    have B := B4
    have fL := (sm_one hb s4) _ _ fL
    have nDb := B.ne nD
    refine lc_it walk_range (fun i H5 => Bp H5 b (n + 1 + i) ∧ Sm [b] H6 H5 ∧ ∃ ys : List Str, H5 D = some (.lst (ys.map V.str)) ∧ ys.length = i ∧ ∀ y ∈ ys, Wd 1 y) ⟨(B.put nD).mono (by omega), sm_put nD, [], upd_same, rfl, fun _ h => (List.not_mem_nil h).elim⟩ (fun _ _ _ _ => trivial) ?_ ?_
    · rintro i x H5 H6 hi ⟨B5, s5, ys, hL, hy, hw⟩ ⟨rfl, rfl⟩
      refine ⟨rfl, tYes_at ?_⟩
      rw [if_pos rfl]
      have az : ∀ c ∈ (Str.ofString "abcdefghijklmnopqrstuvwxyz").cps.toList, 97 ≤ c ∧ c ≤ 122 := by decide +kernel
      refine ⟨_, rfl, _, rfl, b, _, _, rfl, B5, by omega, .inl ⟨_, rfl, by decide +kernel, by decide +kernel, fun H7 c B7 s7 hc => ⟨_, sm1_at s7 nDb hL, ?_, (B7.wr nDb).mono (by omega), smp (s5.trans s7) nD, ys ++ [⟨#[c]⟩], ?_, ?_, ?_⟩⟩⟩
      · rw [List.length_map, hy]; exact Nat.lt_of_lt_of_le (show i < 8 by omega) (by decide)
      · rw [upd_same, List.map_append]; rfl
      · rw [List.length_append, hy]; rfl
      · intro y h
        rcases List.mem_append.mp h with h | h
        · exact hw y h
        · rw [List.mem_singleton.mp h]; exact wd_sign (az c hc).1 (az c hc).2
    rintro H7 ⟨B5, s5, ys, hD, hy, hw⟩
    have lv := lv.box B5.bx s5
    have sc := sc.trans s5
    have B := B5
    have fL := (sm_one hb s5) _ _ fL
    have hy7 : ys.length ≤ 7 := by omega
    refine ⟨_, D, ys, rfl, rfl, .inl (SqL.of hD), ?_, ?_⟩
    · have := wd1_sum hw
      show _ + ys.length * 0 ≤ _
      omega
    have hst : Wd 7 (Txt.join (Str.ofString "") ys) := by rw [TL.join_eq]; exact (wd_join hw).mono hy7
    have B := B.mono (show _ ≤ n + 8 by omega)
    generalize Txt.join (Str.ofString "") ys = st at hst ⊢
    clear hD hy hw hy7
    refine ⟨_, rfl, _, rfl, _, _, rfl, ⟨wd_small hst (by decide), rfl⟩, _, _, rfl, rfl, b, _, _, rfl, (by have := hst.1; omega), (by have := hst.1; omega), B, by omega, fun H8 a a0 a1 B8 s8 => ?_⟩
    have lv := lv.box B8.bx s8
    have sc := sc.trans s8
    have B := B8
    have fL := (sm_one hb s8) _ _ fL
    refine ⟨_, rfl, b, 26, _, rfl, (by decide), (by decide), B, by omega, fun H9 fi f0 f1 B9 s9 => ⟨_, _, rfl, ?_⟩⟩
    have lv := lv.box B9.bx s9
    have sc := sc.trans s9
    have B := B9
    have fL := (sm_one hb s9) _ _ fL
    obtain ⟨a, rfl⟩ : ∃ a2 : Nat, a = (a2 : Int) := ⟨a.toNat, by omega⟩
    have hL := at_off fL
    refine ⟨_, rfl, _, rfl, (by decide), (by decide), ?_⟩
    refine for_it walk_range (fun i σ H3 => ∃ v4 v8, σ = [some (.ref b), some (.int 22), some (.str "abcdefghijklmnopqrstuvwxyz"), some (.ref L), v4, some (.str st), some (.int (a : Nat)), some (.int fi), v8] ∧ Bp H3 b (n + 10 + i) ∧ Sm [b] H H3 ∧ ∃ ys : List Str, H3 L = some (.lst (ys.map V.str)) ∧ ys.length = i ∧ ∀ y ∈ ys, Nm y)
      ⟨_, _, rfl, B.mono (by omega), sc, [], hL, rfl, (fun _ h => (List.not_mem_nil h).elim)⟩ (fun _ _ _ _ _ => trivial) ?_ ?_
    · rintro i x σ H11 H12 hi ⟨v4, v8, rfl, B, sc, ys, hL, hy, hw⟩ ⟨rfl, rfl⟩
      have hi3 : i < 22 := hi
      have nn : 0 ≤ (fi + 7 * (0 + (i : Int))) % 26 := Int.emod_nonneg _ (by decide)
      have nn1 : (fi + 7 * (0 + (i : Int))) % 26 < 26 := Int.emod_lt_of_pos _ (by decide)
      have wl := wd_letter nn nn1
      refine ⟨_, rfl, _, rfl, _, rfl, _, _, rfl, rfl, .inl ⟨by decide, by decide⟩, _, _, rfl, rfl, _, _, rfl, rfl, (by show (0 : Int) < 26; decide), _, _, _, rfl, rfl, (by decide +kernel), az_ix nn nn1, ?_⟩
      generalize (97 + ((fi + 7 * (0 + (i : Int))) % 26).toNat) = sg at wl ⊢
      refine ⟨_, rfl, .inl ⟨rfl, _, SqL.of hL⟩, _, rfl, _, rfl, _, _, rfl, rfl, b, _, _, rfl, by omega, by omega, B, by omega, fun H5 r r0 r1 B5 s5 => ?_⟩
      have hL := sm_at s5 (by simp [Lb]) hL
      refine ⟨_, rfl, _, _, rfl, rfl, (by show (0 : Int) < 3; decide), rfl, _, rfl, ite_te (fun x Hx => ∃ nm : Str, x = .str nm ∧ Nm nm ∧ Hx = H5) (fun Q1 kk hh => ?_) (fun Q1 kk hh => ?_) ?_⟩
      · exact ⟨_, rfl, kk _ _ ⟨_, rfl, ⟨wl.mono (by decide), by show 0 < 1; decide⟩, rfl⟩⟩
      · have h6 := hst.1
        have l1 := cut_small st none (some (a : Int))
        have l2 := cut_small st (some (a : Int)) none
        have w1 := wd_cut (lo := none) (hi := some (a : Int)) hst
        have lcut : (cutS st none (some (a : Int))).length + (cutS st (some (a : Int)) none).length ≤ 7 := by
          have h1 := cut_len st none (some (a : Int))
          have h2 := cut_len st (some (a : Int)) none
          rw [HT.sIx_nat, HT.sIx_none] at h1
          rw [HT.sIx_nat, HT.sIx_none] at h2
          omega
        refine ⟨_, rfl, _, rfl, _, rfl, _, rfl, wd_small hst (by decide), _, rfl, _, _, rfl, rfl, ?_, ?_⟩
        · show _ + 1 ≤ sizeLine
          rw [sizeLine_eq]; omega
        refine ⟨_, rfl, _, rfl, _, rfl, _, rfl, wd_small hst (by decide), _, _, rfl, rfl, ?_, ?_⟩
        · rw [strLen_append, sizeLine_eq]
          show _ + 1 + _ ≤ _
          omega
        have lon : (cutS st none (some (a : Int)) ++ (⟨#[sg]⟩ : Str) ++ cutS st (some (a : Int)) none).length = (cutS st none (some (a : Int))).length + 1 + (cutS st (some (a : Int)) none).length := by rw [strLen_append, strLen_append]; rfl
        exact kk _ _ ⟨_, rfl, ⟨⟨by omega, fun c hc => (wd_add (wd_add w1 wl) (wd_cut (lo := some (a : Int)) (hi := none) hst)).2 c hc⟩, by omega⟩, rfl⟩
      rintro x Hx ⟨nm, rfl, hnm, rfl⟩
      refine ⟨L, _, r, _, rfl, rfl, hL, (by rw [List.length_map, sizeLine_eq]; omega), r0, by omega, ?_⟩
      refine ⟨_, _, rfl, (B5.wr Lb).mono (by omega), smp (sc.trans s5) nL0, ys.take r.toNat ++ [nm] ++ ys.drop r.toNat, by rw [upd_same, List.map_append, List.map_append, List.map_take, List.map_drop]; rfl, by rw [List.length_append, List.length_append, List.length_take, List.length_drop]; show _ + 1 + _ = _; omega, fun y h => ?_⟩
      rcases List.mem_append.mp h with h | h
      · rcases List.mem_append.mp h with h | h
        · exact hw y (List.mem_of_mem_take h)
        · rw [List.mem_singleton.mp h]; exact hnm
      · exact hw y (List.mem_of_mem_drop h)
    · rintro σ H11 ⟨v4, v8, rfl, B, sc, ys, hL, hy, hw⟩
      exact ⟨_, rfl, q _ L ys (B.mono (by omega)) sc nL0 hL hy hw⟩

end
end Pot

namespace Pot
open PySem PySem.Spec PyProof.Rows L2
section
variable {P : Program} {w : World} {K : PySem.W.Frag} {mg : Str → Option Value} {base : Heap}
abbrev s__law_same : Stmt := topS 10
def n__law_same : List Str := ["_law_found", "_law_due", "_law_one", "_law_two"]
theorem sc__law_same : FnScope n__law_same ["_law_found", "_law_due"] (defScope s__law_same) := ⟨rfl, rfl, rfl, by decide +kernel, rfl, by decide +kernel, by decide +kernel⟩
/-! ### _law_same: two of one and the same make are told to be so -/
def spSame (K : PySem.W.Frag) (k : Nat) : Sp := fun vs H Q _ => ∃ (x y : V) (d : PyData) (m : Nat), vs = [x, y] ∧ Dp K H x d ∧ Dp K H y d ∧ d.depth < k ∧ widAll.wid d ≤ 1000 ∧ gd m d ∧ ∀ H', Same H H' → Q (.bl true) H'
theorem ok_same {f : Addr} {fd : FuncData} (F : Fun K "_law_same" "_law_same" s__law_same f fd) (T : Txt mg) (bF : Binds K fd ["_law_found", "_law_due"] []) (gF : mg "_law_same" = some (.ref f)) :
    ∀ k : Nat, FnOk P w K mg base CX0 (k + 1) f fd ["_law_found", "_law_due"] (spSame K k) := by
  intro k
  induction k with
  | zero =>
    refine F.ok sc__law_same (fun vs H Q E h => ?_) (fun cdv A outer s H vs Q E hr h => ?_)
    · obtain ⟨x, y, d, m, rfl, _⟩ := h
      rfl
    · obtain ⟨x, y, d, m, rfl, hx, hy, hd, hw, hg, q⟩ := h
      exact absurd hd (Nat.not_lt_zero _)
  | succ k G =>
    refine F.ok sc__law_same (fun vs H Q E h => ?_) (fun cdv A outer s H vs Q E hr h => ?_)
    · obtain ⟨x, y, d, m, rfl, _⟩ := h
      rfl
    · obtain ⟨x, y, d, m, rfl, hx, hy, hd, hw, hg, q⟩ := h
      have nd := sc__law_same.nd
      have hu64 := hr.units
      refine ⟨_, (pss_cons (ps_if (pt_val (pe_callB (kc_isiT (K := K)) (by rfl) T.isinstance (by decide +kernel) (pa_cons (pv 1) (pa_cons (pe_tup (pa_cons (pe_bltn (v := .ty "list") (by rfl) T.list (by decide +kernel) rfl) (pa_cons (pe_bltn (v := .ty "tuple") (by rfl) T.tuple (by decide +kernel) rfl) pa_nil))) pa_nil))))
          (pss_cons (ps_if ((pw_or (pt_cmpR op_ne (pe_callB (kc_isi (K := K)) (by rfl) T.isinstance (by decide +kernel) (pa_cons (pv 0) (pa_cons (pe_bltn (v := .ty "list") (by rfl) T.list (by decide +kernel) rfl) pa_nil))) (pe_callB (kc_isi (K := K)) (by rfl) T.isinstance (by decide +kernel) (pa_cons (pv 1) (pa_cons (pe_bltn (v := .ty "list") (by rfl) T.list (by decide +kernel) rfl) pa_nil))) (nomark _)) (pw_or1 (pt_cmpR op_ne (pe_callB (kc_isi (K := K)) (by rfl) T.isinstance (by decide +kernel) (pa_cons (pv 0) (pa_cons (pe_bltn (v := .ty "tuple") (by rfl) T.tuple (by decide +kernel) rfl) pa_nil))) (pe_callB (kc_isi (K := K)) (by rfl) T.isinstance (by decide +kernel) (pa_cons (pv 1) (pa_cons (pe_bltn (v := .ty "tuple") (by rfl) T.tuple (by decide +kernel) rfl) pa_nil))) (nomark _))))).pt
              pss_never
              pss_nil)
          (pss_one (ps_ret (pe_and (pe_cmpR op_eq (pe_callB (kc_len (K := K)) (by rfl) T.len PySem.boot_len (pa_cons (pv 0) pa_nil)) (pe_callB (kc_len (K := K)) (by rfl) T.len PySem.boot_len (pa_cons (pv 1) pa_nil)) (nomark _)) (pe_one (pe_callB (kc_all (K := K)) (by rfl) T.all (by decide +kernel) (pa_cons (pe_lc (own := [("_law_one", 2), ("_law_two", 3)]) rfl nd (ki_zip (K := K) (by rfl) T.zip (pa_cons (pv 0) (pa_cons (pv 1) pa_nil))) (blkOk_by (N := n__law_same) (sc := defScope s__law_same) (by decide +kernel)) (fun _ _ _ _ _ => (kg_tup (K := K) (n := 2) (pgs_cons (pg_name (i := 2) nd rfl (.inl rfl)) (pgs_cons (pg_name (i := 3) nd rfl (.inl rfl)) pgs_nil)))) (fun _ _ _ _ _ => pts_nil) (fun _ _ _ _ _ => (pe_call G hr (by rfl) gF F.kp bF .nil pass0 (pa_cons (pv 2) (pa_cons (pv 3) pa_nil))))) pa_nil)))))))
          pss_nil)
      (pss_cons (ps_if ((pw_or (pt_cmpR op_isN (pv 1) pe_non (nomark _)) (pw_or1 (pt_val (pe_callB (kc_isi (K := K)) (by rfl) T.isinstance (by decide +kernel) (pa_cons (pv 1) (pa_cons (pe_bltn (v := .ty "str") (by rfl) T.str (by decide +kernel) rfl) pa_nil))))))).pt
          (pss_one (ps_ret (pe_and (pe_cmpR op_eq (pe_callB (kc_isi (K := K)) (by rfl) T.isinstance (by decide +kernel) (pa_cons (pv 0) (pa_cons (pe_bltn (v := .ty "str") (by rfl) T.str (by decide +kernel) rfl) pa_nil))) (pe_callB (kc_isi (K := K)) (by rfl) T.isinstance (by decide +kernel) (pa_cons (pv 1) (pa_cons (pe_bltn (v := .ty "str") (by rfl) T.str (by decide +kernel) rfl) pa_nil))) (nomark _)) (pe_one (pe_cmpR (ko_eq (K := K) hu64) (pv 0) (pv 1) (nomark _))))))
          pss_nil)
      (pss_one (ps_ret (pe_and (pe_callB (kc_isi (K := K)) (by rfl) T.isinstance (by decide +kernel) (pa_cons (pv 0) (pa_cons (pe_bltn (v := .ty "int") (by rfl) T.int (by decide +kernel) rfl) pa_nil))) (pe_and (pe_cmpR op_eq (pe_callB (kc_isi (K := K)) (by rfl) T.isinstance (by decide +kernel) (pa_cons (pv 0) (pa_cons (pe_bltn (v := .ty "bool") (by rfl) T.bool (by decide +kernel) rfl) pa_nil))) (pe_callB (kc_isi (K := K)) (by rfl) T.isinstance (by decide +kernel) (pa_cons (pv 1) (pa_cons (pe_bltn (v := .ty "bool") (by rfl) T.bool (by decide +kernel) rfl) pa_nil))) (nomark _)) (pe_one (pe_cmpR (ko_eq (K := K) hu64) (pv 0) (pv 1) (nomark _))))))))), ?_⟩
      refine ⟨_, rfl, (by show 2 ≤ sizeLine; decide), fun t ht => ?_⟩
      have sm1 : Same H (upd H t (.tup [.ty "list", .ty "tuple"])) := same_upd ht
      have hx1 := dp_same sm1 hx
      have hy1 := dp_same sm1 hy
      have ht1 : (upd H t (.tup [.ty "list", .ty "tuple"])) t = some (.tup [.ty "list", .ty "tuple"]) := upd_same
      generalize upd H t (.tup [.ty "list", .ty "tuple"]) = H1 at sm1 hx1 hy1 ht1 ⊢
      refine ⟨_, t, _, _, _, _, rfl, ht1, .cons (.ty _) (.cons (.ty _) .nil), tyx_dp hy1, kit_lt hy1, _, rfl, ?_⟩
      have hx2 := hx1
      have hy2 := hy1
      cases hy1 with
      | non =>
        cases hx1
        refine iteF ?_
        refine ⟨_, rfl, rfl, _, rfl, iteT ?_⟩
        refine ⟨_, rfl, _, .ty _, _, _, isStrD _, rfl, .ty _, tyx_dp hx2, kit_str hx2, _, rfl, _, .ty _, _, _, isStrD _, rfl, .ty _, tyx_dp hy2, kit_str hy2, rfl, _, rfl, iteT ?_⟩
        refine ⟨_, rfl, _, rfl, _, _, hx2, hy2, rfl, rfl, ?_⟩
        exact q _ sm1
      | str z =>
        cases hx1
        have hsh := gd_shaped hg (by show 0 ≤ 64; decide)
        refine iteF ?_
        refine ⟨_, rfl, rfl, _, rfl, iteF ⟨_, rfl, _, .ty _, _, _, isStrD _, rfl, .ty _, tyx_dp hy2, kit_str hy2, _, rfl, iteT ?_⟩⟩
        refine ⟨_, rfl, _, .ty _, _, _, isStrD _, rfl, .ty _, tyx_dp hx2, kit_str hx2, _, rfl, _, .ty _, _, _, isStrD _, rfl, .ty _, tyx_dp hy2, kit_str hy2, rfl, _, rfl, iteT ?_⟩
        refine ⟨_, rfl, _, rfl, _, _, hx2, hy2, hsh, hsh, ?_⟩
        have e : PyData.eqv (.str z) (.str z) = true := by simp [PyData.eqv]
        rw [e]
        exact q _ sm1
      | bl b =>
        cases hx1
        refine iteF ?_
        refine ⟨_, rfl, rfl, _, rfl, iteF ⟨_, rfl, _, .ty _, _, _, isStrD _, rfl, .ty _, tyx_dp hy2, kit_str hy2, _, rfl, iteF ?_⟩⟩
        refine ⟨_, rfl, _, .ty _, _, _, isIntD _, rfl, .ty _, tyx_dp hx2, kit_int hx2, _, rfl, iteT ⟨_, rfl, _, .ty _, _, _, isBoolD _, rfl, .ty _, tyx_dp hx2, kit_bool hx2, _, rfl, _, .ty _, _, _, isBoolD _, rfl, .ty _, tyx_dp hy2, kit_bool hy2, rfl, _, rfl, iteT ?_⟩⟩
        refine ⟨_, rfl, _, rfl, _, _, hx2, hy2, rfl, rfl, ?_⟩
        have e : PyData.eqv (.bool b) (.bool b) = true := by cases b <;> rfl
        rw [e]
        exact q _ sm1
      | int i =>
        cases hx1
        refine iteF ?_
        refine ⟨_, rfl, rfl, _, rfl, iteF ⟨_, rfl, _, .ty _, _, _, isStrD _, rfl, .ty _, tyx_dp hy2, kit_str hy2, _, rfl, iteF ?_⟩⟩
        refine ⟨_, rfl, _, .ty _, _, _, isIntD _, rfl, .ty _, tyx_dp hx2, kit_int hx2, _, rfl, iteT ⟨_, rfl, _, .ty _, _, _, isBoolD _, rfl, .ty _, tyx_dp hx2, kit_bool hx2, _, rfl, _, .ty _, _, _, isBoolD _, rfl, .ty _, tyx_dp hy2, kit_bool hy2, rfl, _, rfl, iteT ?_⟩⟩
        refine ⟨_, rfl, _, rfl, _, _, hx2, hy2, rfl, rfl, ?_⟩
        have e : PyData.eqv (.int i) (.int i) = true := by show (i == i) = true; exact beq_self_eq_true i
        rw [e]
        exact q _ sm1
      | @lst b ys ds hl ha =>
        cases hx1 with
        | @lst a xs _ hl' ha' =>
        have e1 : xs.length = ys.length := (dpAll_len ha').trans (dpAll_len ha).symm
        refine iteT ?_
        refine ⟨_, rfl, _, .ty _, _, _, isListD _, rfl, .ty _, tyx_dp hx2, kit_list hx2, _, rfl, _, .ty _, _, _, isListD _, rfl, .ty _, tyx_dp hy2, kit_list hy2, rfl, _, rfl, iteF ?_⟩
        refine ⟨_, rfl, _, .ty _, _, _, isTupD _, rfl, .ty _, tyx_dp hx2, kit_tup hx2, _, rfl, _, .ty _, _, _, isTupD _, rfl, .ty _, tyx_dp hy2, kit_tup hy2, rfl, _, rfl, iteF ?_⟩
        refine ⟨_, rfl, _, xs.length, rfl, .inl ⟨xs, hl', rfl⟩, _, rfl, _, ys.length, rfl, .inl ⟨ys, hl, rfl⟩, rfl, _, rfl, ?_⟩
        rw [e1]
        refine ite2 (fun _ => ?_) (fun h => absurd (decide_eq_true rfl) h)
        refine ⟨_, rfl, _, rfl, a, b, xs, ys, rfl, .inl ⟨hl', hl, fun D hD => ?_⟩⟩
        refine lc_it (walk_zip (xs := xs) (ys := ys) (n := ys.length) (by rw [e1, Nat.min_self])) (fun i H2 => Same H1 H2 ∧ H1 D = none ∧ H2 D = some (.lst ((List.replicate i true).map V.bl))) ⟨same_upd hD, hD, upd_same⟩ (fun i H2 _ h => ⟨h.1.seq hl', h.1.seq hl⟩) ?_ ?_
        · skip
          rintro i v H2 H3 hi ⟨sm, nD, hL⟩ ⟨u, x1, y1, rfl, hu, rfl, gx, gy⟩
          have sm3 : Same H1 (upd H2 u (.tup [x1, y1])) := same_put sm (sm.free hu)
          obtain ⟨d1, g1, p1⟩ := dpAll_at ha' gx
          obtain ⟨d2, g2, p2⟩ := dpAll_at ha gy
          have ed : d1 = d2 := Option.some.inj (g1.symm.trans g2)
          subst ed
          refine ⟨u, _, rfl, .inl (.inl upd_same), rfl, _, _, rfl, _, _, rfl, rfl, rfl, tYes_at ?_⟩
          rw [if_pos rfl]
          refine ⟨_, rfl, _, rfl, x1, y1, d1, m, rfl, dp_same sm3 p1, dp_same sm3 p2, ?_, ?_, gdAll_iff.mp hg d1 (List.mem_of_getElem? g1), fun H4 s4 => ?_⟩
          · have h1 := depth_at g1
            have h2 : PyData.depthAll ds + 1 < k + 1 := hd
            omega
          · exact Nat.le_trans (wid_at g1) (Nat.le_trans (Nat.le_max_right _ _) hw)
          · have nuD : D ≠ u := ne_of_none hL hu
            refine ⟨_, s4 _ _ (by rw [upd_ne nuD]; exact hL), ?_, same_put (sm3.trans s4) nD, nD, ?_⟩
            · rw [List.length_map, List.length_replicate]
              exact Nat.lt_of_lt_of_le (dpAll_len ha ▸ hi) (Nat.le_trans (Nat.le_trans (Nat.le_max_left _ _) hw) (by decide))
            · rw [upd_same, List.replicate_succ', List.map_append]
              rfl
        · skip
          rintro H2 ⟨sm, nD, hL⟩
          refine ⟨D, _, rfl, SqL.of hL, ?_⟩
          have e : (List.replicate ys.length true).all id = true := by simp
          rw [e]
          exact q _ (sm1.trans sm)
      | @tup b ys ds hl ha =>
        cases hx1 with
        | @tup a xs _ hl' ha' =>
        have e1 : xs.length = ys.length := (dpAll_len ha').trans (dpAll_len ha).symm
        refine iteT ?_
        refine ⟨_, rfl, _, .ty _, _, _, isListD _, rfl, .ty _, tyx_dp hx2, kit_list hx2, _, rfl, _, .ty _, _, _, isListD _, rfl, .ty _, tyx_dp hy2, kit_list hy2, rfl, _, rfl, iteF ?_⟩
        refine ⟨_, rfl, _, .ty _, _, _, isTupD _, rfl, .ty _, tyx_dp hx2, kit_tup hx2, _, rfl, _, .ty _, _, _, isTupD _, rfl, .ty _, tyx_dp hy2, kit_tup hy2, rfl, _, rfl, iteF ?_⟩
        refine ⟨_, rfl, _, xs.length, rfl, .inr ⟨xs, hl', rfl⟩, _, rfl, _, ys.length, rfl, .inr ⟨ys, hl, rfl⟩, rfl, _, rfl, ?_⟩
        rw [e1]
        refine ite2 (fun _ => ?_) (fun h => absurd (decide_eq_true rfl) h)
        refine ⟨_, rfl, _, rfl, a, b, xs, ys, rfl, .inr ⟨hl', hl, fun D hD => ?_⟩⟩
        refine lc_it (walk_zipT (xs := xs) (ys := ys) (n := ys.length) (by rw [e1, Nat.min_self])) (fun i H2 => Same H1 H2 ∧ H1 D = none ∧ H2 D = some (.lst ((List.replicate i true).map V.bl))) ⟨same_upd hD, hD, upd_same⟩ (fun i H2 _ h => ⟨same_tup h.1 hl', same_tup h.1 hl⟩) ?_ ?_
        · skip
          rintro i v H2 H3 hi ⟨sm, nD, hL⟩ ⟨u, x1, y1, rfl, hu, rfl, gx, gy⟩
          have sm3 : Same H1 (upd H2 u (.tup [x1, y1])) := same_put sm (sm.free hu)
          obtain ⟨d1, g1, p1⟩ := dpAll_at ha' gx
          obtain ⟨d2, g2, p2⟩ := dpAll_at ha gy
          have ed : d1 = d2 := Option.some.inj (g1.symm.trans g2)
          subst ed
          refine ⟨u, _, rfl, .inl (.inl upd_same), rfl, _, _, rfl, _, _, rfl, rfl, rfl, tYes_at ?_⟩
          rw [if_pos rfl]
          refine ⟨_, rfl, _, rfl, x1, y1, d1, m, rfl, dp_same sm3 p1, dp_same sm3 p2, ?_, ?_, gdAll_iff.mp hg d1 (List.mem_of_getElem? g1), fun H4 s4 => ?_⟩
          · have h1 := depth_at g1
            have h2 : PyData.depthAll ds + 1 < k + 1 := hd
            omega
          · exact Nat.le_trans (wid_at g1) (Nat.le_trans (Nat.le_max_right _ _) hw)
          · have nuD : D ≠ u := ne_of_none hL hu
            refine ⟨_, s4 _ _ (by rw [upd_ne nuD]; exact hL), ?_, same_put (sm3.trans s4) nD, nD, ?_⟩
            · rw [List.length_map, List.length_replicate]
              exact Nat.lt_of_lt_of_le (dpAll_len ha ▸ hi) (Nat.le_trans (Nat.le_trans (Nat.le_max_left _ _) hw) (by decide))
            · rw [upd_same, List.replicate_succ', List.map_append]
              rfl
        · skip
          rintro H2 ⟨sm, nD, hL⟩
          refine ⟨D, _, rfl, SqL.of hL, ?_⟩
          have e : (List.replicate ys.length true).all id = true := by simp
          rw [e]
          exact q _ (sm1.trans sm)

end
end Pot

namespace Pot
open PySem PySem.Spec PyProof.Rows L2
section
variable {P : Program} {w : World} {K : PySem.W.Frag} {mg : Str → Option Value} {base : Heap}
/-- no tuples among these -/
def NT (S : List Addr) (H : Hp) : Prop := ∀ x ∈ S, ∀ ob, H x = some ob → (∀ us, ob ≠ .tup us) ∧ ∀ o us, ob ≠ .frz o (.tup us)
theorem sqT_nt {H H' : Hp} {S : List Addr} {a : Addr} {vs : List V} (h : SqT K H a vs) (s : Sm S H H') (nt : NT S H) : SqT K H' a vs := by
  rcases h with (h | ⟨o2, h⟩) | h
  · exact .inl (.inl (sm_at s (fun x => (nt a x _ h).1 _ rfl) h))
  · exact .inl (.inr ⟨o2, sm_at s (fun x => (nt a x _ h).2 _ _ rfl) h⟩)
  · exact .inr h
theorem dp_nt {H H' : Hp} {S : List Addr} {v : V} {d : PyData} (h : Dp K H v d) (nl : noLAll.noL d) (s : Sm S H H') (nt : NT S H) : Dp K H' v d := dp_go (fun a vs h => sqT_nt h s nt) nl h
theorem dpAll_nt {H H' : Hp} {S : List Addr} {us : List V} {ds : List PyData} (h : DpAll K H us ds) (nl : noLAll ds) (s : Sm S H H') (nt : NT S H) : DpAll K H' us ds := dpAll_go (fun a vs h => sqT_nt h s nt) nl h
theorem bp_nt {H : Hp} {b : Addr} {n : Nat} (B : Bp H b n) : NT [b] H := fun x hx ob e => by
  obtain ⟨_, _, _, hb, _⟩ := B
  rw [List.mem_singleton.mp hx, hb] at e
  cases e
  exact ⟨fun _ z => (by cases z), fun _ _ z => (by cases z)⟩
theorem lst_nt {H : Hp} {a : Addr} {us : List V} (h : H a = some (.lst us)) : NT [a] H := fun x hx ob e => by
  rw [List.mem_singleton.mp hx, h] at e
  cases e
  exact ⟨fun _ z => (by cases z), fun _ _ z => (by cases z)⟩
def WsOk (r : Wsh) : Prop := Nm r.1 ∧ Nm r.2.1 ∧ ∀ i, r.2.2 = some i → 0 ≤ i ∧ i ≤ 11
theorem seq_mid {t u : TS} {D} {σ : L2.St} {H : Hp} (G : L2.St → Hp → Prop) (h1 : ∀ N : L2.St → Hp → Prop, (∀ σ' H', G σ' H' → N σ' H') → t { D with nx := N } σ H) (h2 : ∀ σ' H', G σ' H' → u D σ' H') : tSeq t u D σ H := h1 (u D) h2
/-- washes under way -/
structure WsS (K : PySem.W.Frag) (H Hx : Hp) (b L W : Addr) (ys : List Str) (m : Nat) : Prop where
  B : Bp Hx b m
  fr : Sm [b] H Hx
  hL : Hx L = some (.lst (ys.map V.str))
  ex : ∃ (us : List V) (ws : List Wsh), Hx W = some (.lst us) ∧ DpAll K Hx us (ws.map washD) ∧ ws.length ≤ 60 ∧ ∀ r ∈ ws, WsOk r
  Wb : W ≠ b
  WL : W ≠ L
  Lb : L ≠ b
  fW : H W = none
theorem noL_ws (ws : List Wsh) : noLAll (ws.map washD) := noL_map (f := washD) noL_wash ws
section
variable {H Hx H' : Hp} {b L W : Addr} {ys : List Str} {m m' : Nat}
theorem WsS.take (w : WsS K H Hx b L W ys m) (s : Sm [b] Hx H') (B : Bp H' b m') : WsS K H H' b L W ys m' := by
  obtain ⟨us, ws, h1, h2, h3, h4⟩ := w.ex
  exact ⟨B, w.fr.trans s, sm1_at s w.Lb w.hL, ⟨us, ws, sm1_at s w.Wb h1, dpAll_nt h2 (noL_ws ws) s (bp_nt w.B), h3, h4⟩, w.Wb, w.WL, w.Lb, w.fW⟩
theorem WsS.same (w : WsS K H Hx b L W ys m) (s : Same Hx H') : WsS K H H' b L W ys m := by
  obtain ⟨us, ws, h1, h2, h3, h4⟩ := w.ex
  exact ⟨w.B.same s, w.fr.trans (sm_of s), s _ _ w.hL, ⟨us, ws, s _ _ h1, dpAll_same s h2, h3, h4⟩, w.Wb, w.WL, w.Lb, w.fW⟩
theorem WsS.mono (w : WsS K H Hx b L W ys m) (h : m ≤ m') : WsS K H Hx b L W ys m' := ⟨w.B.mono h, w.fr, w.hL, w.ex, w.Wb, w.WL, w.Lb, w.fW⟩
end
abbrev s__law_some_washes : Stmt := topS 11
def n__law_some_washes : List Str := ["_law_box", "_law_names", "_law_found", "_law_ahead", "_law_behind", "_law_hours"]
theorem sc__law_some_washes : FnScope n__law_some_washes ["_law_box", "_law_names"] (defScope s__law_some_washes) := ⟨rfl, rfl, rfl, by decide +kernel, rfl, by decide +kernel, by decide +kernel⟩
def spWsh (K : PySem.W.Frag) : Sp := fun vs H Q _ => ∃ (b L : Addr) (n : Nat) (ys : List Str), vs = [.ref b, .ref L] ∧ Bp H b n ∧ n + 5000 < 2 ^ 40 ∧ L ≠ b ∧ H L = some (.lst (ys.map V.str)) ∧ ys.length ≤ 20 ∧ (∀ y ∈ ys, Nm y) ∧
  ∀ (H' : Hp) (t : Addr) (ws : List Wsh), Bp H' b (n + 2000) → Sm [b] H H' → Dp K H' (.ref t) (.tuple (ws.map washD)) → ws.length ≤ 60 → (∀ r ∈ ws, WsOk r) → Q (.ref t) H'
theorem ok_wsh {f : Addr} {fd : FuncData} {k : Nat} (F : Fun K "_law_some_washes" "_law_some_washes" s__law_some_washes f fd) (T : Txt mg) (c__law_take : Cl P w K mg base 1 "_law_take" spTake) : FnOk P w K mg base CX0 (k + 2) f fd ["_law_box", "_law_names"] (spWsh K) := by
  refine F.ok sc__law_some_washes (fun vs H Q E h => ?_) (fun cdv A outer s H vs Q E hr h => ?_)
  · obtain ⟨b, L, n, ys, rfl, _⟩ := h
    rfl
  · obtain ⟨b, L, n, ys, rfl, B, hn, Lb, hL, ly, ny, q⟩ := h
    have nd := sc__law_some_washes.nd
    /- 0 _law_box, 1 _law_names, 2 _law_found, 3 _law_ahead, 4 _law_behind, 5 _law_hours -/
    refine ⟨_, (pss_cons (ps_set (i := 2) nd rfl (.inl rfl) (pe_lst pa_nil))
      (pss_cons (ps_for PassesOwn.never rfl (ki_list (K := K) (pv 1)) (pg_name (i := 3) nd rfl (.inl rfl))
          (pss_one (ps_for PassesOwn.never rfl (ki_list (K := K) (pv 1)) (pg_name (i := 4) nd rfl (.inl rfl))
              (pss_cons (ps_set (i := 5) nd rfl (.inl rfl) (pe_ix (kx_list (K := K)) (pe_lst (pa_cons (pe_cl c__law_take hr (by omega) (by rfl) (pa_cons (pv 0) (pa_cons pe_int pa_nil))) (pa_cons pe_int (pa_cons pe_non (pa_cons (pe_cl c__law_take hr (by omega) (by rfl) (pa_cons (pv 0) (pa_cons pe_int pa_nil))) pa_nil))))) (pe_cl c__law_take hr (by omega) (by rfl) (pa_cons (pv 0) (pa_cons pe_int pa_nil))) (fun _ _ => rfl)))
              (pss_one (ps_if ((pw_and (pt_cmpR op_ne (pv 3) (pv 4) (nomark _)) (pw_and (pt_cmpR op_eq (pe_cl c__law_take hr (by omega) (by rfl) (pa_cons (pv 0) (pa_cons pe_int pa_nil))) pe_int (nomark _)) (pw_and1 (pt_cmpR op_lt (pe_callB (kc_len (K := K)) (by rfl) T.len PySem.boot_len (pa_cons (pv 2) pa_nil)) pe_int (nomark _)))))).pt
                  (pss_one (ps_expr (pe_bm PySem.F.plainAttrs_list PySem.F.slot_list_append PySem.F.type_list_append mt_append (pv 2) (pa_cons (pe_tup (pa_cons (pv 3) (pa_cons (pv 4) (pa_cons (pv 5) pa_nil)))) pa_nil))))
                  pss_nil))))))
      (pss_one (ps_ret (pe_callTy (kc_tuple (K := K)) (by rfl) T.tuple (by decide +kernel) (pa_cons (pv 2) pa_nil)))))), ?_⟩
    refine ⟨Nat.zero_le _, fun W nW => ?_⟩
    have s1 := same_upd (o := .lst []) nW
    have w0 : WsS K H (upd H W (.lst [])) b L W ys n := ⟨B.same s1, sm_of s1, s1 _ _ hL, ⟨[], [], upd_same, .nil, by decide, fun _ h => (List.not_mem_nil h).elim⟩, B.ne nW, (ne_of_none hL nW).symm, Lb, nW⟩
    generalize upd H W (.lst []) = H1 at w0 ⊢
    clear s1 nW B hL
    have atY : ∀ {j : Nat} {v : V}, (ys.map V.str)[j]? = some v → ∃ z, v = .str z ∧ Nm z := fun {j v} e => by
      rw [List.getElem?_map] at e
      obtain ⟨z, g, rfl⟩ := Option.map_eq_some_iff.mp e
      exact ⟨z, rfl, ny z (List.mem_of_getElem? g)⟩
    simp only [gName, List.set]
    refine ⟨_, rfl, L, rfl, ⟨_, SqL.of w0.hL⟩, ?_⟩
    refine for_it (walk_list (xs := ys.map V.str)) (fun i σ Hx => ∃ v3 v4 v5, σ = [some (.ref b), some (.ref L), some (.ref W), v3, v4, v5] ∧ WsS K H Hx b L W ys (n + 80 * i)) ⟨_, _, _, rfl, w0⟩ (fun i σ Hx _ h => by obtain ⟨_, _, _, _, w⟩ := h; exact SqL.of w.hL) ?_ ?_
    rotate_left
    · rintro σ Hx ⟨v3, v4, v5, rfl, w⟩
      rw [List.length_map] at w
      obtain ⟨us, ws, h1, h2, h3, h4⟩ := w.ex
      refine ⟨_, rfl, W, us, rfl, .inl ⟨SqL.of h1, fun t nt => ?_⟩⟩
      have s2 := same_upd (o := .tup us) nt
      exact q _ t ws ((w.B.same s2).mono (by omega)) (w.fr.trans (sm_of s2)) (.tup (.inl (.inl upd_same)) (dpAll_same s2 h2)) h3 h4
    rintro i y σ _ H2 hi ⟨v3, v4, v5, rfl, w⟩ ⟨rfl, gy⟩
    obtain ⟨z1, rfl, nz1⟩ := atY gy
    rw [List.length_map] at hi
    simp only [gName, List.set]
    refine ⟨_, rfl, L, rfl, ⟨_, SqL.of w.hL⟩, ?_⟩
    refine for_it (walk_list (xs := ys.map V.str)) (fun j σ Hx => ∃ v4 v5, σ = [some (.ref b), some (.ref L), some (.ref W), some (.str z1), v4, v5] ∧ WsS K H Hx b L W ys (n + 80 * i + 4 * j)) ⟨_, _, rfl, w⟩ (fun i σ Hx _ h => by obtain ⟨_, _, _, w⟩ := h; exact SqL.of w.hL) ?_ ?_
    rotate_left
    · rintro σ Hx ⟨v4, v5, rfl, w⟩
      rw [List.length_map] at w
      exact ⟨_, _, _, rfl, w.mono (by omega)⟩
    clear w gy
    rintro j y σ _ H3 hj ⟨v4, v5, rfl, w⟩ ⟨rfl, gy⟩
    obtain ⟨z2, rfl, nz2⟩ := atY gy
    rw [List.length_map] at hj
    simp only [gName, List.set]
    refine ⟨_, rfl, b, 4, _, rfl, by decide, by decide, w.B, by omega, fun H4 a a0 a1 B4 s4 => ?_⟩
    have w := w.take s4 B4
    refine ⟨_, rfl, b, 12, _, rfl, by decide, by decide, w.B, by omega, fun H5 c c0 c1 B5 s5 => ⟨(by show 4 ≤ sizeLine; decide), fun l nl => ?_⟩⟩
    have w := w.take s5 B5
    have s6 := same_upd (o := .lst [V.int a, .int 0, .non, .int c]) nl
    have hl : upd H5 l (.lst [V.int a, .int 0, .non, .int c]) l = some (.lst [V.int a, .int 0, .non, .int c]) := upd_same
    have lb := w.B.ne nl
    have w := w.same s6
    generalize upd H5 l (.lst [V.int a, .int 0, .non, .int c]) = H6 at w hl ⊢
    refine ⟨_, rfl, b, 4, _, rfl, by decide, by decide, w.B, by omega, fun H7 e e0 e1 B7 s7 => ?_⟩
    have w := w.take s7 B7
    have hl := sm1_at s7 lb hl
    obtain ⟨o, go, ho⟩ : ∃ o : Option Int, atI [V.int a, .int 0, .non, .int c] e = some (optV o) ∧ ∀ i, o = some i → 0 ≤ i ∧ i ≤ 11 := by
      have h : e = 0 ∨ e = 1 ∨ e = 2 ∨ e = 3 := by omega
      rcases h with rfl | rfl | rfl | rfl
      · exact ⟨some a, rfl, fun i h => by cases h; omega⟩
      · exact ⟨some 0, rfl, fun i h => by cases h; omega⟩
      · exact ⟨none, rfl, fun i h => by cases h⟩
      · exact ⟨some c, rfl, fun i h => by cases h; omega⟩
    refine ⟨l, _, e, _, rfl, rfl, SqL.of hl, go, ?_⟩
    clear hl lb s7 s5 s4 B7 B5 B4 go
    simp only [gName, List.set]
    have skip : ∀ (Hx : Hp) (m : Nat), m ≤ n + 80 * i + 4 * (j + 1) → WsS K H Hx b L W ys m → ∃ v4 v5, [some (V.ref b), some (.ref L), some (.ref W), some (.str z1), some (.str z2), some (optV o)] = [some (.ref b), some (.ref L), some (.ref W), some (.str z1), v4, v5] ∧ WsS K H Hx b L W ys (n + 80 * i + 4 * (j + 1)) := fun Hx m h w => ⟨_, _, rfl, w.mono h⟩
    refine ⟨_, rfl, _, rfl, rfl, _, rfl, ite2 (fun _ => ?_) (fun _ => iteF (skip _ _ (by omega) w))⟩
    refine ⟨_, rfl, b, 2, _, rfl, by decide, by decide, w.B, by omega, fun H8 g g0 g1 B8 s8 => ?_⟩
    have w := w.take s8 B8
    refine ⟨rfl, _, rfl, ite2 (fun _ => ?_) (fun _ => iteF (skip _ _ (by omega) w))⟩
    obtain ⟨us, ws, h1, h2, h3, h4⟩ := id w.ex
    have lu : us.length = ws.length := dpAll_map_len h2
    refine ⟨_, rfl, _, _, rfl, .inl ⟨_, SqL.of h1, rfl⟩, _, _, rfl, rfl, _, rfl, ite2 (fun h60 => ?_) (fun _ => skip _ _ (by omega) w)⟩
    have h60 : us.length < 60 := by have := of_decide_eq_true h60; omega
    refine ⟨_, rfl, .inl ⟨rfl, _, SqL.of h1⟩, _, rfl, _, rfl, _, rfl, (by show 3 ≤ sizeLine; decide), fun t nt => ?_⟩
    have s9 := same_upd (o := .tup [V.str z1, .str z2, optV o]) nt
    have ht : upd H8 t (.tup [V.str z1, .str z2, optV o]) t = some (.tup [V.str z1, .str z2, optV o]) := upd_same
    have w := w.same s9
    have h1 := s9 _ _ h1
    have h2 := dpAll_same s9 h2
    generalize upd H8 t (.tup [V.str z1, .str z2, optV o]) = H9 at w ht h1 h2 ⊢
    refine ⟨W, us, _, rfl, rfl, h1, by rw [sizeLine_eq]; omega, ?_⟩
    have sw : Sm [W] H9 (upd H9 W (.lst (us ++ [.ref t]))) := sm_wr (by simp)
    have tW : t ≠ W := fun e => by rw [e, h1] at ht; cases ht
    have dt : Dp K (upd H9 W (.lst (us ++ [.ref t]))) (.ref t) (washD (z1, z2, o)) := .tup (.inl (.inl ((upd_ne tW).trans ht))) (.cons (.str _) (.cons (.str _) (.cons (by cases o; exact .non; exact .int _) .nil)))
    refine skip _ _ (Nat.le_refl _) ⟨(w.B.wr w.Wb).mono (by omega), ?_, (upd_ne w.WL.symm).trans w.hL, ⟨us ++ [.ref t], ws ++ [(z1, z2, o)], upd_same, ?_, by rw [List.length_append]; show ws.length + 1 ≤ 60; omega, fun r hr => ?_⟩, w.Wb, w.WL, w.Lb, w.fW⟩
    · intro x ob e
      have nx := off_mem e
      rw [off_out nx] at e ⊢
      rw [upd_ne fun z => by rw [z, w.fW] at e; cases e]
      exact sm_at w.fr nx e
    · rw [List.map_append]
      exact dpAll_app' (dpAll_nt h2 (noL_ws ws) sw (lst_nt h1)) (.cons dt .nil)
    · rcases List.mem_append.mp hr with h | h
      · exact h4 r h
      · rw [List.mem_singleton.mp h]; exact ⟨nz1, nz2, ho⟩

end
end Pot

namespace Pot
open PySem PySem.Spec PyProof.Rows L2
section
variable {P : Program} {w : World} {K : PySem.W.Frag} {mg : Str → Option Value} {base : Heap}
/-- what is kept while draws go on: objects that stay (but for the box), and data of tuples -/
structure Kps (K : PySem.W.Frag) (H Hx : Hp) (b : Addr) (raw : List (Addr × HO)) (kept : List (List V × List PyData)) (m : Nat) : Prop where
  B : Bp Hx b m
  fr : Sm [b] H Hx
  rw : ∀ e ∈ raw, e.1 ≠ b ∧ Hx e.1 = some e.2
  kp : ∀ e ∈ kept, noLAll e.2 ∧ DpAll K Hx e.1 e.2
section
variable {H Hx H' : Hp} {b : Addr} {raw : List (Addr × HO)} {kept : List (List V × List PyData)} {m m' : Nat}
theorem Kps.take (w : Kps K H Hx b raw kept m) (s : Sm [b] Hx H') (B : Bp H' b m') : Kps K H H' b raw kept m' :=
  ⟨B, w.fr.trans s, fun e he => ⟨(w.rw e he).1, sm1_at s (w.rw e he).1 (w.rw e he).2⟩, fun e he => ⟨(w.kp e he).1, dpAll_nt (w.kp e he).2 (w.kp e he).1 s (bp_nt w.B)⟩⟩
theorem Kps.same (w : Kps K H Hx b raw kept m) (s : Same Hx H') : Kps K H H' b raw kept m :=
  ⟨w.B.same s, w.fr.trans (sm_of s), fun e he => ⟨(w.rw e he).1, s _ _ (w.rw e he).2⟩, fun e he => ⟨(w.kp e he).1, dpAll_same s (w.kp e he).2⟩⟩
theorem Kps.mono (w : Kps K H Hx b raw kept m) (h : m ≤ m') : Kps K H Hx b raw kept m' := ⟨w.B.mono h, w.fr, w.rw, w.kp⟩
theorem Kps.raw1 {a : Addr} {o : HO} (w : Kps K H Hx b raw kept m) (n : a ≠ b) (h : Hx a = some o) : Kps K H Hx b ((a, o) :: raw) kept m :=
  ⟨w.B, w.fr, fun e he => by
    rcases List.mem_cons.mp he with h2 | h2
    · rw [h2]; exact ⟨n, h⟩
    · exact w.rw e h2, w.kp⟩
theorem Kps.kept1 {us : List V} {ds : List PyData} (w : Kps K H Hx b raw kept m) (nl : noLAll ds) (d : DpAll K Hx us ds) : Kps K H Hx b raw ((us, ds) :: kept) m :=
  ⟨w.B, w.fr, w.rw, fun e he => by
    rcases List.mem_cons.mp he with h2 | h2
    · rw [h2]; exact ⟨nl, d⟩
    · exact w.kp e h2⟩
theorem Kps.sub {raw' : List (Addr × HO)} {kept' : List (List V × List PyData)} (w : Kps K H Hx b raw kept m) (h1 : ∀ e ∈ raw', e ∈ raw) (h2 : ∀ e ∈ kept', e ∈ kept) : Kps K H Hx b raw' kept' m :=
  ⟨w.B, w.fr, fun e he => w.rw e (h1 e he), fun e he => w.kp e (h2 e he)⟩
/-- a new address: none of those that stay -/
theorem Kps.new {D : Addr} (w : Kps K H Hx b raw kept m) (n : Hx D = none) : D ≠ b ∧ (∀ e ∈ raw, e.1 ≠ D) ∧ H D = none := by
  have nb := w.B.ne n
  refine ⟨nb, fun e he z => ?_, ?_⟩
  · have := (w.rw e he).2
    rw [z, n] at this; cases this
  · cases c : H D with
    | none => rfl
    | some ob =>
      have := sm1_at w.fr nb c
      rw [n] at this; cases this
/-- a list of one's own is changed -/
theorem Kps.put {D : Addr} {us : List V} {o : HO} (w : Kps K H Hx b raw kept m) (h : Hx D = some (.lst us)) (nb : D ≠ b) (nr : ∀ e ∈ raw, e.1 ≠ D) (f : H D = none) : Kps K H (upd Hx D o) b raw kept m := by
  have s : Sm [D] Hx (upd Hx D o) := sm_wr (by simp)
  refine ⟨w.B.wr nb, fun x ob e => ?_, fun e he => ⟨(w.rw e he).1, (upd_ne (nr e he)).trans (w.rw e he).2⟩, fun e he => ⟨(w.kp e he).1, dpAll_nt (w.kp e he).2 (w.kp e he).1 s (lst_nt h)⟩⟩
  have nx := off_mem e
  rw [off_out nx] at e ⊢
  rw [upd_ne fun z => by rw [z, f] at e; cases e]
  exact sm_at w.fr nx e
/-- one more in a list under way -/
theorem Kps.push {C : Addr} {us : List V} {ds : List PyData} {v : V} {d : PyData} (w : Kps K H Hx b ((C, .lst us) :: raw) ((us, ds) :: kept) m) (Cr : ∀ e ∈ raw, e.1 ≠ C) (Cf : H C = none) (dt : Dp K Hx v d) (nd : noLAll.noL d) : Kps K H (upd Hx C (.lst (us ++ [v]))) b raw kept m ∧ DpAll K (upd Hx C (.lst (us ++ [v]))) (us ++ [v]) (ds ++ [d]) := by
  obtain ⟨Cb, hC⟩ := w.rw _ List.mem_cons_self
  obtain ⟨nl, dC⟩ := w.kp _ List.mem_cons_self
  have s : Sm [C] Hx (upd Hx C (.lst (us ++ [v]))) := sm_wr (by simp)
  exact ⟨(w.sub (fun e h => List.mem_cons_of_mem _ h) (fun e h => List.mem_cons_of_mem _ h)).put hC Cb Cr Cf, dpAll_app' (dpAll_nt dC nl s (lst_nt hC)) (.cons (dp_nt dt nd s (lst_nt hC)) .nil)⟩
end

abbrev Kd := Str × Int × Int
abbrev Tm := Str × Int
def kdD (k : Kd) : PyData := .tuple [.str k.1, .int k.2.1, .int k.2.2]
def tmD (t : Tm) : PyData := .tuple [.str t.1, .int t.2]
structure Hall where
  cs : List Col
  ws : List Wsh
  ks : List Kd
  ts : List Tm
  ps : List Str
  sl : Int
  st : Str
def hallD (h : Hall) : PyData := .tuple [palD h.cs h.ws, .tuple (h.ks.map kdD), .tuple (h.ts.map tmD), .tuple (h.ps.map PyData.str), .int h.sl, .str h.st]
def CoOk (c : Col) : Prop := Nm c.1 ∧ (1 ≤ c.2.1 ∧ c.2.1 ≤ 3) ∧ (0 ≤ c.2.2.1 ∧ c.2.2.1 ≤ 3) ∧ 1 ≤ c.2.2.2 ∧ c.2.2.2 ≤ 9
def KdOk (k : Kd) : Prop := Nm k.1 ∧ (1 ≤ k.2.1 ∧ k.2.1 ≤ 3) ∧ 1 ≤ k.2.2 ∧ k.2.2 ≤ 6
def TmOk (t : Tm) : Prop := Nm t.1 ∧ 1 ≤ t.2 ∧ t.2 ≤ 3
structure HallOk (h : Hall) : Prop where
  c1 : 1 ≤ h.cs.length
  c2 : h.cs.length ≤ 12
  co : ∀ c ∈ h.cs, CoOk c
  w2 : h.ws.length ≤ 60
  wo : ∀ r ∈ h.ws, WsOk r
  k1 : 1 ≤ h.ks.length
  k2 : h.ks.length ≤ 20
  ko : ∀ c ∈ h.ks, KdOk c
  t1 : 1 ≤ h.ts.length
  t2 : h.ts.length ≤ 10
  to : ∀ c ∈ h.ts, TmOk c
  p1 : 1 ≤ h.ps.length
  p2 : h.ps.length ≤ 8
  po : ∀ c ∈ h.ps, Nm c
  s1 : 0 ≤ h.sl
  s2 : h.sl ≤ 60
  so : Nm h.st
def Small (h : Hall) : Prop := h.cs.length ≤ 3 ∧ h.ks.length ≤ 3 ∧ h.ts.length ≤ 2 ∧ h.ps.length ≤ 3
theorem noL_kd (k : Kd) : noLAll.noL (kdD k) := ⟨trivial, trivial, trivial, trivial⟩
theorem noL_tm (t : Tm) : noLAll.noL (tmD t) := ⟨trivial, trivial, trivial⟩
abbrev s__law_a_hall : Stmt := topS 12
def n__law_a_hall : List Str := ["_law_box", "_law_great", "_law_pool", "_law_sizes", "_law_first", "_law_some", "_law_colours", "_law_kinds", "_law_teams", "_law_palette", "_law_slots", "_law_k", "_law_many", "_law_name"]
theorem sc__law_a_hall : FnScope n__law_a_hall ["_law_box", "_law_great"] (defScope s__law_a_hall) := ⟨rfl, rfl, rfl, by decide +kernel, rfl, by decide +kernel, by decide +kernel⟩
def spHall (K : PySem.W.Frag) : Sp := fun vs H Q _ => ∃ (b : Addr) (n : Nat) (gr : Bool), vs = [.ref b, .bl gr] ∧ Bp H b n ∧ n + 20000 < 2 ^ 40 ∧
  ∀ (H' : Hp) (t : Addr) (h : Hall), Bp H' b (n + 4000) → Sm [b] H H' → Dp K H' (.ref t) (hallD h) → HallOk h → (gr = false → Small h) → Q (.ref t) H'
set_option maxHeartbeats 1000000 in
theorem ok_hall {f : Addr} {fd : FuncData} {k : Nat} (F : Fun K "_law_a_hall" "_law_a_hall" s__law_a_hall f fd) (T : Txt mg) (c__law_take : Cl P w K mg base 1 "_law_take" spTake) (c__law_some_names : Cl P w K mg base 3 "_law_some_names" spSome) (c__law_some_washes : Cl P w K mg base 2 "_law_some_washes" (spWsh K)) : FnOk P w K mg base CX0 (k + 4) f fd ["_law_box", "_law_great"] (spHall K) := by
  refine F.ok sc__law_a_hall (fun vs H Q E h => ?_) (fun cdv A outer s H vs Q E hr h => ?_)
  · obtain ⟨b, n, gr, rfl, _⟩ := h
    rfl
  · obtain ⟨b, n, gr, rfl, B, hn, q⟩ := h
    have nd := sc__law_a_hall.nd
    /- 0 _law_box, 1 _law_great, 2 _law_pool, 3 _law_sizes, 4 _law_first, 5 _law_some, 6 _law_colours, 7 _law_kinds, 8 _law_teams, 9 _law_palette, 10 _law_slots, 11 _law_k, 12 _law_many, 13 _law_name -/
    refine ⟨_, (pss_cons (ps_asg (pe_tup (pa_cons (pe_cl c__law_some_names hr (by omega) (by rfl) (pa_cons (pv 0) (pa_cons pe_int pa_nil))) (pa_cons (pe_lst (pa_cons pe_int (pa_cons pe_int (pa_cons pe_int (pa_cons pe_int pa_nil))))) pa_nil))) (kg_tup (K := K) (n := 2) (pgs_cons (pg_name (i := 2) nd rfl (.inr rfl)) (pgs_cons (pg_name (i := 3) nd rfl (.inl rfl)) pgs_nil))))
      (pss_cons (ps_if (pt_not (pt_val (pv 1)))
          (pss_one (ps_set (i := 3) nd rfl (.inl rfl) (pe_lst (pa_cons (pe_op op_add pe_int (pe_cl c__law_take hr (by omega) (by rfl) (pa_cons (pv 0) (pa_cons pe_int pa_nil)))) (pa_cons (pe_op op_add pe_int (pe_cl c__law_take hr (by omega) (by rfl) (pa_cons (pv 0) (pa_cons pe_int pa_nil)))) (pa_cons (pe_op op_add pe_int (pe_cl c__law_take hr (by omega) (by rfl) (pa_cons (pv 0) (pa_cons pe_int pa_nil)))) (pa_cons (pe_op op_add pe_int (pe_cl c__law_take hr (by omega) (by rfl) (pa_cons (pv 0) (pa_cons pe_int pa_nil)))) pa_nil)))))))
          pss_nil)
      (pss_cons (ps_set (i := 4) nd rfl (.inr rfl) (pe_cl c__law_take hr (by omega) (by rfl) (pa_cons (pv 0) (pa_cons pe_int pa_nil))))
      (pss_cons (ps_setLc (i := 5) (own := [("_law_k", 11), ("_law_many", 12)]) rfl nd rfl rfl (sw_true rfl rfl rfl (by decide +kernel)) (ki_enum (K := K) (by rfl) T.enumerate (pa_cons (pv 3) pa_nil)) (blkOk_by (N := n__law_a_hall) (sc := defScope s__law_a_hall) (by decide +kernel)) (fun _ _ _ _ _ => (kg_tup (K := K) (n := 2) (pgs_cons (pg_name (i := 11) nd rfl (.inl rfl)) (pgs_cons (pg_name (i := 12) nd rfl (.inl rfl)) pgs_nil)))) (fun _ _ _ _ _ => pts_nil) (fun _ _ _ _ _ => (pe_callB (kc_sortedS (K := K)) (by rfl) T.sorted (by decide +kernel) (pa_cons (pe_slice (kl_list (K := K)) (pv 2) (po_some (pe_op op_mul (pv 4) (pv 11))) (po_some (pe_op op_add (pe_op op_mul (pv 4) (pv 11)) (pv 12)))) pa_nil))))
      (pss_cons (ps_setLc (i := 6) (own := [("_law_name", 13)]) rfl nd rfl rfl (sw_true rfl rfl rfl (by decide +kernel)) (ki_list (K := K) (pe_ix (kx_list (K := K)) (pv 5) pe_int (fun _ _ => rfl))) (blkOk_by (N := n__law_a_hall) (sc := defScope s__law_a_hall) (by decide +kernel)) (fun _ _ _ _ _ => (pg_name (i := 13) nd rfl (.inl rfl))) (fun _ _ _ _ _ => pts_nil) (fun _ _ _ _ _ => (pe_tup (pa_cons (pv 13) (pa_cons (pe_op op_add pe_int (pe_cl c__law_take hr (by omega) (by rfl) (pa_cons (pv 0) (pa_cons pe_int pa_nil)))) (pa_cons (pe_cl c__law_take hr (by omega) (by rfl) (pa_cons (pv 0) (pa_cons pe_int pa_nil))) (pa_cons (pe_op op_add pe_int (pe_cl c__law_take hr (by omega) (by rfl) (pa_cons (pv 0) (pa_cons pe_int pa_nil)))) pa_nil)))))))
      (pss_cons (ps_setLc (i := 7) (own := [("_law_name", 13)]) rfl nd rfl rfl (sw_true rfl rfl rfl (by decide +kernel)) (ki_list (K := K) (pe_ix (kx_list (K := K)) (pv 5) pe_int (fun _ _ => rfl))) (blkOk_by (N := n__law_a_hall) (sc := defScope s__law_a_hall) (by decide +kernel)) (fun _ _ _ _ _ => (pg_name (i := 13) nd rfl (.inl rfl))) (fun _ _ _ _ _ => pts_nil) (fun _ _ _ _ _ => (pe_tup (pa_cons (pv 13) (pa_cons (pe_op op_add pe_int (pe_cl c__law_take hr (by omega) (by rfl) (pa_cons (pv 0) (pa_cons pe_int pa_nil)))) (pa_cons (pe_op op_add pe_int (pe_cl c__law_take hr (by omega) (by rfl) (pa_cons (pv 0) (pa_cons pe_int pa_nil)))) pa_nil))))))
      (pss_cons (ps_setLc (i := 8) (own := [("_law_name", 13)]) rfl nd rfl rfl (sw_true rfl rfl rfl (by decide +kernel)) (ki_list (K := K) (pe_ix (kx_list (K := K)) (pv 5) pe_int (fun _ _ => rfl))) (blkOk_by (N := n__law_a_hall) (sc := defScope s__law_a_hall) (by decide +kernel)) (fun _ _ _ _ _ => (pg_name (i := 13) nd rfl (.inl rfl))) (fun _ _ _ _ _ => pts_nil) (fun _ _ _ _ _ => (pe_tup (pa_cons (pv 13) (pa_cons (pe_op op_add pe_int (pe_cl c__law_take hr (by omega) (by rfl) (pa_cons (pv 0) (pa_cons pe_int pa_nil)))) pa_nil)))))
      (pss_cons (ps_set (i := 9) nd rfl (.inl rfl) (pe_tup (pa_cons (pe_callTy (kc_tuple (K := K)) (by rfl) T.tuple (by decide +kernel) (pa_cons (pv 6) pa_nil)) (pa_cons (pe_cl c__law_some_washes hr (by omega) (by rfl) (pa_cons (pv 0) (pa_cons (pe_ix (kx_list (K := K)) (pv 5) pe_int (fun _ _ => rfl)) pa_nil))) pa_nil))))
      (pss_cons (ps_set (i := 10) nd rfl (.inl rfl) (pe_ix (kx_list (K := K)) (pe_lst (pa_cons (pe_cl c__law_take hr (by omega) (by rfl) (pa_cons (pv 0) (pa_cons pe_int pa_nil))) (pa_cons (pe_op op_add pe_int (pe_cl c__law_take hr (by omega) (by rfl) (pa_cons (pv 0) (pa_cons pe_int pa_nil)))) (pa_cons pe_int pa_nil)))) (pe_cl c__law_take hr (by omega) (by rfl) (pa_cons (pv 0) (pa_cons pe_int pa_nil))) (fun _ _ => rfl)))
      (pss_one (ps_ret (pe_tup (pa_cons (pv 9) (pa_cons (pe_callTy (kc_tuple (K := K)) (by rfl) T.tuple (by decide +kernel) (pa_cons (pv 7) pa_nil)) (pa_cons (pe_callTy (kc_tuple (K := K)) (by rfl) T.tuple (by decide +kernel) (pa_cons (pv 8) pa_nil)) (pa_cons (pe_callTy (kc_tuple (K := K)) (by rfl) T.tuple (by decide +kernel) (pa_cons (pe_ix (kx_list (K := K)) (pv 5) pe_int (fun _ _ => rfl)) pa_nil)) (pa_cons (pv 10) (pa_cons (pe_ix (kx_list (K := K)) (pv 2) (pe_un un_neg pe_int) (fun _ _ => rfl)) pa_nil)))))))))))))))))), ?_⟩
    refine ⟨_, rfl, b, n, rfl, B, by omega, fun H1 P pool B1 s1 nP hP lp np => ?_⟩
    have Pb : P ≠ b := by
      obtain ⟨_, _, _, hb, _⟩ := B
      exact (ne_of_none hb nP).symm
    have w1 : Kps K H H1 b [(P, .lst (pool.map V.str))] [] (n + 40) := (Kps.mk B1 s1 (fun _ h => (List.not_mem_nil h).elim) (fun _ h => (List.not_mem_nil h).elim) : Kps K H H1 b [] [] (n + 40)).raw1 Pb hP
    refine ⟨(by show 4 ≤ sizeLine; decide), fun Z nZ => ⟨(by show 2 ≤ sizeLine; decide), fun tp ntp => ?_⟩⟩
    have sz := same_upd (o := .lst [V.int 12, .int 20, .int 10, .int 8]) nZ
    have hZ : upd H1 Z (.lst [V.int 12, .int 20, .int 10, .int 8]) Z = some (.lst [V.int 12, .int 20, .int 10, .int 8]) := upd_same
    have w2 := w1.same sz
    have Zb := w1.B.ne nZ
    generalize upd H1 Z (.lst [V.int 12, .int 20, .int 10, .int 8]) = H2 at hZ w2 ntp ⊢
    have st := same_upd (o := .tup [V.ref P, .ref Z]) ntp
    have w3 := (w2.raw1 Zb hZ).same st
    refine ⟨tp, _, rfl, .inl (.inl upd_same), rfl, _, _, rfl, _, _, rfl, rfl, ?_⟩
    generalize upd H2 tp (.tup [V.ref P, .ref Z]) = H3 at w3 ⊢
    clear w1 w2 hZ hP nP B1 s1 B
    simp only [gName, List.set]
    refine seq_mid (fun σ Hx => ∃ Z z0 z1 z2 z3, σ = [some (.ref b), some (.bl gr), some (.ref P), some (.ref Z), none, none, none, none, none, none, none, none, none, none] ∧ Kps K H Hx b [(Z, .lst ([z0, z1, z2, z3].map V.int)), (P, .lst (pool.map V.str))] [] (n + 50) ∧ (1 ≤ z0 ∧ z0 ≤ 12) ∧ (1 ≤ z1 ∧ z1 ≤ 20) ∧ (1 ≤ z2 ∧ z2 ≤ 10) ∧ (1 ≤ z3 ∧ z3 ≤ 8) ∧ (gr = false → z0 ≤ 3 ∧ z1 ≤ 3 ∧ z2 ≤ 2 ∧ z3 ≤ 3)) (fun N hN => ?_) (fun σ Hx h => ?_)
    · refine ⟨_, rfl, gr, rfl, ?_⟩
      cases gr with
      | true => exact iteF (hN _ _ ⟨Z, 12, 20, 10, 8, rfl, w3.mono (by omega), by decide, by decide, by decide, by decide, fun h => by cases h⟩)
      | false =>
        refine iteT ?_
        refine ⟨_, rfl, b, 3, _, rfl, by decide, by decide, w3.B, by omega, fun H4 a0 a1 a2 B4 s4 => ⟨_, _, rfl, rfl, ?_⟩⟩
        have w4 := w3.take s4 B4
        refine ⟨_, rfl, b, 3, _, rfl, by decide, by decide, w4.B, by omega, fun H5 c0 c1 c2 B5 s5 => ⟨_, _, rfl, rfl, ?_⟩⟩
        have w5 := w4.take s5 B5
        refine ⟨_, rfl, b, 2, _, rfl, by decide, by decide, w5.B, by omega, fun H6 d0 d1 d2 B6 s6 => ⟨_, _, rfl, rfl, ?_⟩⟩
        have w6 := w5.take s6 B6
        refine ⟨_, rfl, b, 3, _, rfl, by decide, by decide, w6.B, by omega, fun H7 e0 e1 e2 B7 s7 => ⟨_, _, rfl, rfl, (by show 4 ≤ sizeLine; decide), fun Z2 nZ2 => ?_⟩⟩
        have w7 := w6.take s7 B7
        refine hN _ _ ⟨Z2, 1 + a0, 1 + c0, 1 + d0, 1 + e0, rfl, (((w7.same (same_upd nZ2)).raw1 (w7.B.ne nZ2) upd_same).sub (fun e he => ?_) (fun _ h => (List.not_mem_nil h).elim)).mono (by omega), by omega, by omega, by omega, by omega, fun _ => by omega⟩
        simp only [List.mem_cons, List.not_mem_nil, or_false] at he ⊢
        rcases he with h | h
        · exact .inl h
        · exact .inr (.inr h)
    obtain ⟨Z, z0, z1, z2, z3, rfl, w4, hz0, hz1, hz2, hz3, sm⟩ := h
    clear w3
    refine ⟨_, rfl, b, 2, _, rfl, by decide, by decide, w4.B, by omega, fun H5 fi f0 f1 B5 s5 => ?_⟩
    have w5 := w4.take s5 B5
    simp only [gName, List.set]
    clear w4
    obtain ⟨zs, ezs⟩ : ∃ zs, zs = [z0, z1, z2, z3] := ⟨_, rfl⟩
    have hzs : ∀ (j : Nat) (z : Int), zs[j]? = some z → 1 ≤ z ∧ z ≤ 20 := fun j z g => by
      have m := List.mem_of_getElem? g
      rw [ezs] at m
      simp only [List.mem_cons, List.not_mem_nil, or_false] at m
      rcases m with rfl | rfl | rfl | rfl <;> omega
    have lzs : zs.length = 4 := by rw [ezs]; rfl
    rw [← ezs] at w5
    refine ⟨_, rfl, Z, _, rfl, SqL.of (w5.rw _ List.mem_cons_self).2, fun S nS => ?_⟩
    obtain ⟨Sb, Sr, Sf⟩ := w5.new nS
    have ZS : Z ≠ S := Sr _ List.mem_cons_self
    have PS : P ≠ S := Sr _ (List.mem_cons_of_mem _ List.mem_cons_self)
    refine lc_it (walk_enum (xs := zs.map V.int)) (fun j Hx => ∃ pr : List (Addr × List Str), Hx S = some (.lst (pr.map fun e => V.ref e.1)) ∧ pr.length = j ∧ (∀ e ∈ pr, e.1 ≠ S) ∧ Kps K H Hx b (pr.map (fun e => (e.1, HO.lst (e.2.map V.str))) ++ [(Z, .lst (zs.map V.int)), (P, .lst (pool.map V.str))]) [] (n + 51) ∧ ∀ (i : Nat) (e : Addr × List Str), pr[i]? = some e → (1 ≤ e.2.length ∧ ∀ z, zs[i]? = some z → (e.2.length : Int) ≤ z) ∧ ∀ y ∈ e.2, Nm y)
      ⟨[], upd_same, rfl, fun _ h => (List.not_mem_nil h).elim, (w5.same (same_upd nS)).mono (by omega), fun i e h => by simp at h⟩ (fun j Hx _ h => by
        obtain ⟨pr, _, _, _, w, _⟩ := h
        exact SqL.of (w.rw (Z, _) (List.mem_append_right _ List.mem_cons_self)).2) ?_ ?_
    · rintro j y Ha Hb hj ⟨pr, hS, lpr, pS, w, ok⟩ ⟨tt, x1, x2, rfl, nt, rfl, g1, g2⟩
      cases g1
      replace g2 : (zs.map V.int)[j]? = some x2 := g2
      rw [List.getElem?_map] at g2
      obtain ⟨z, gz, rfl⟩ := Option.map_eq_some_iff.mp g2
      obtain ⟨zl, zh⟩ := hzs j z gz
      have hj : j < 4 := by rw [List.length_map] at hj; omega
      have s6 := same_upd (o := .tup [.int (j : Nat), .int z]) nt
      have w := w.same s6
      have hS := s6 _ _ hS
      refine ⟨tt, _, rfl, .inl (.inl upd_same), rfl, _, _, rfl, _, _, rfl, rfl, rfl, tYes_at ?_⟩
      rw [if_pos rfl]
      generalize upd Ha tt (.tup [.int (j : Nat), .int z]) = Hc at w hS ⊢
      have cm : CMul fi (j : Nat) := .inl ⟨by omega, by omega⟩
      have hP := (w.rw (P, _) (List.mem_append_right _ (List.mem_cons_of_mem _ List.mem_cons_self))).2
      refine ⟨_, rfl, _, rfl, _, rfl, _, _, rfl, rfl, cm, _, rfl, _, rfl, _, rfl, _, _, rfl, rfl, cm, _, rfl, _, _, rfl, rfl, _, rfl, P, _, rfl, SqL.of hP, fun p np' => ?_⟩
      obtain ⟨a, ea, a3⟩ : ∃ a : Nat, fi * (j : Nat) = (a : Int) ∧ a ≤ 3 := by
        have h : fi = 0 ∨ fi = 1 := by omega
        rcases h with rfl | rfl
        · exact ⟨0, by omega, by omega⟩
        · exact ⟨j, by omega, by omega⟩
      obtain ⟨zn, ezn⟩ : ∃ zn : Nat, z = (zn : Int) := ⟨z.toNat, by omega⟩
      have ecut : cutV (pool.map V.str) (some (fi * (j : Nat))) (some (fi * (j : Nat) + z)) = ((pool.drop a).take (min (a + zn) 22 - a)).map V.str := by
        rw [ea, ezn, show ((a : Nat) : Int) + ((zn : Nat) : Int) = ((a + zn : Nat) : Int) by omega, cut_map, HT.sIx_nat, HT.sIx_nat, lp, Nat.min_eq_left (show a ≤ 22 by omega)]
      rw [ecut]
      have lcut : ((pool.drop a).take (min (a + zn) 22 - a)).length = min (a + zn) 22 - a := by
        rw [List.length_take, List.length_drop, lp]; omega
      refine ⟨p, (pool.drop a).take (min (a + zn) 22 - a), rfl, SqL.of upd_same, by omega, fun ys p2 pm _ np2 => ?_⟩
      have s7 := (same_upd (o := .lst (((pool.drop a).take (min (a + zn) 22 - a)).map V.str)) np').trans (same_upd (o := .lst (ys.map V.str)) np2)
      have w := w.same s7
      have hS := s7 _ _ hS
      have hp2 : upd (upd Hc p (.lst (((pool.drop a).take (min (a + zn) 22 - a)).map V.str))) p2 (.lst (ys.map V.str)) p2 = some (.lst (ys.map V.str)) := upd_same
      have p2S : p2 ≠ S := (ne_of_none ((same_upd (o := .lst (((pool.drop a).take (min (a + zn) 22 - a)).map V.str)) np') _ _ ‹Hc S = _›) np2).symm
      have p2b : p2 ≠ b := by
        obtain ⟨_, _, _, hb, _⟩ := w.B
        intro e
        rw [← e, hp2] at hb
        obtain ⟨_, _, _, hb0, _⟩ := ‹Kps K H Hc b _ [] (n + 51)›.B
        exact ne_of_none ((same_upd (o := .lst (((pool.drop a).take (min (a + zn) 22 - a)).map V.str)) np') _ _ hb0) np2 e.symm
      generalize upd (upd Hc p (.lst (((pool.drop a).take (min (a + zn) 22 - a)).map V.str))) p2 (.lst (ys.map V.str)) = Hd at w hS hp2 ⊢
      have lys : ys.length = min (a + zn) 22 - a := by rw [pm.length_eq, lcut]
      have w2 := w.raw1 p2b hp2
      refine ⟨_, hS, by rw [List.length_map, lpr, sizeLine_eq]; omega, pr ++ [(p2, ys)], by rw [upd_same, List.map_append]; rfl, by rw [List.length_append, lpr]; rfl, fun e he => ?_, ?_, fun i e g => ?_⟩
      · rcases List.mem_append.mp he with h | h
        · exact pS e h
        · rw [List.mem_singleton.mp h]; exact p2S
      · refine (w2.sub (fun e he => ?_) (fun _ h => h)).put hS Sb (fun e he => ?_) Sf
        · rw [List.map_append, List.append_assoc] at he
          rcases List.mem_append.mp he with h | h
          · exact List.mem_cons_of_mem _ (List.mem_append_left _ h)
          · rcases List.mem_append.mp h with h | h
            · rw [List.mem_singleton.mp h]; exact List.mem_cons_self
            · exact List.mem_cons_of_mem _ (List.mem_append_right _ h)
        · rcases List.mem_append.mp he with h | h
          · obtain ⟨e2, he2, rfl⟩ := List.mem_map.mp h
            rcases List.mem_append.mp he2 with h | h
            · exact pS e2 h
            · rw [List.mem_singleton.mp h]; exact p2S
          · simp only [List.mem_cons, List.not_mem_nil, or_false] at h
            rcases h with rfl | rfl
            · exact ZS
            · exact PS
      · by_cases hi : i < pr.length
        · rw [List.getElem?_append_left hi] at g
          exact ok i e g
        · have hi2 : i = pr.length := by
            rcases Nat.lt_or_ge i (pr ++ [(p2, ys)]).length with h | h
            · rw [List.length_append] at h
              have : ([(p2, ys)] : List (Addr × List Str)).length = 1 := rfl
              omega
            · rw [List.getElem?_eq_none h] at g; cases g
          rw [hi2, List.getElem?_append_right (Nat.le_refl _), Nat.sub_self] at g
          cases g
          refine ⟨⟨by show 1 ≤ ys.length; omega, fun z' gz' => ?_⟩, fun y hy => ?_⟩
          · rw [hi2, lpr, gz] at gz'
            cases gz'
            show (ys.length : Int) ≤ z
            omega
          · exact np y (List.mem_of_mem_drop (List.mem_of_mem_take (pm.mem_iff.mp hy)))
    rintro H6 ⟨pr, hS, lpr, pS, w6, ok⟩
    rw [List.length_map, lzs] at lpr
    obtain ⟨⟨L0, y0⟩, ⟨L1, y1⟩, ⟨L2, y2⟩, ⟨L3, y3⟩, rfl⟩ : ∃ a b c d, pr = [a, b, c, d] := by
      match pr, lpr with
      | [a, b, c, d], _ => exact ⟨a, b, c, d, rfl⟩
    obtain ⟨⟨u0, v0⟩, n0⟩ := ok 0 _ rfl
    obtain ⟨⟨u1, v1⟩, n1⟩ := ok 1 _ rfl
    obtain ⟨⟨u2, v2⟩, n2⟩ := ok 2 _ rfl
    obtain ⟨⟨u3, v3⟩, n3⟩ := ok 3 _ rfl
    have v0 := v0 z0 (by rw [ezs]; rfl)
    have v1 := v1 z1 (by rw [ezs]; rfl)
    have v2 := v2 z2 (by rw [ezs]; rfl)
    have v3 := v3 z3 (by rw [ezs]; rfl)
    have w6 := w6.raw1 Sb hS
    clear ok w5 hS pS nS s5 B5
    simp only [gName, List.set]
    obtain ⟨R, eR⟩ : ∃ R : List (Addr × HO), R = [(S, .lst [.ref L0, .ref L1, .ref L2, .ref L3]), (L0, .lst (y0.map V.str)), (L1, .lst (y1.map V.str)), (L2, .lst (y2.map V.str)), (L3, .lst (y3.map V.str)), (Z, .lst (zs.map V.int)), (P, .lst (pool.map V.str))] := ⟨_, rfl⟩
    have w6 : Kps K H H6 b R [] (n + 51) := by rw [eR]; exact w6
    have mS : (S, HO.lst [.ref L0, .ref L1, .ref L2, .ref L3]) ∈ R := by rw [eR]; simp
    have m0 : (L0, HO.lst (y0.map V.str)) ∈ R := by rw [eR]; simp
    have m1 : (L1, HO.lst (y1.map V.str)) ∈ R := by rw [eR]; simp
    have m2 : (L2, HO.lst (y2.map V.str)) ∈ R := by rw [eR]; simp
    have m3 : (L3, HO.lst (y3.map V.str)) ∈ R := by rw [eR]; simp
    have mP : (P, HO.lst (pool.map V.str)) ∈ R := by rw [eR]; simp
    have n0 : ∀ y ∈ y0, Nm y := n0
    have n1 : ∀ y ∈ y1, Nm y := n1
    have n2 : ∀ y ∈ y2, Nm y := n2
    have n3 : ∀ y ∈ y3, Nm y := n3
    have u0 : 1 ≤ y0.length := u0
    have u1 : 1 ≤ y1.length := u1
    have u2 : 1 ≤ y2.length := u2
    have u3 : 1 ≤ y3.length := u3
    have v0 : (y0.length : Int) ≤ z0 := v0
    have v1 : (y1.length : Int) ≤ z1 := v1
    have v2 : (y2.length : Int) ≤ z2 := v2
    have v3 : (y3.length : Int) ≤ z3 := v3
    clear eR ezs hzs lzs
    -- colours
    refine ⟨_, rfl, S, _, 0, _, rfl, rfl, SqL.of (w6.rw _ mS).2, rfl, L0, rfl, ⟨_, SqL.of (w6.rw _ m0).2⟩, fun C nC => ?_⟩
    obtain ⟨Cb, Cr, Cf⟩ := w6.new nC
    refine lc_it (walk_list (xs := y0.map V.str)) (fun j Hx => ∃ us cs, Hx C = some (.lst us) ∧ DpAll K Hx us (cs.map colD) ∧ cs.length = j ∧ (∀ c ∈ cs, CoOk c) ∧ Kps K H Hx b R [] (n + 60 + 3 * j)) ⟨[], [], upd_same, .nil, rfl, fun _ h => (List.not_mem_nil h).elim, (w6.same (same_upd nC)).mono (by omega)⟩ (fun j Hx _ h => by
      obtain ⟨_, _, _, _, _, _, w⟩ := h
      exact SqL.of (w.rw _ m0).2) ?_ ?_
    · rintro j y _ Hx hj ⟨us, cs, hC, dC, lc, co, w⟩ ⟨rfl, gj⟩
      rw [List.length_map] at hj
      rw [List.getElem?_map] at gj
      obtain ⟨z, gz, rfl⟩ := Option.map_eq_some_iff.mp gj
      have nz := n0 z (List.mem_of_getElem? gz)
      have lu : us.length = cs.length := dpAll_map_len dC
      have w := (w.raw1 Cb hC).kept1 (noL_map (f := colD) noL_col cs) dC
      refine ⟨rfl, tYes_at ?_⟩
      rw [if_pos rfl]
      refine ⟨_, rfl, _, rfl, b, 3, _, rfl, by decide, by decide, w.B, by omega, fun H7 a a0 a1 B7 s7 => ⟨_, _, rfl, rfl, ?_⟩⟩
      have w := w.take s7 B7
      refine ⟨_, rfl, b, 4, _, rfl, by decide, by decide, w.B, by omega, fun H8 c c0 c1 B8 s8 => ?_⟩
      have w := w.take s8 B8
      refine ⟨_, rfl, b, 9, _, rfl, by decide, by decide, w.B, by omega, fun H9 e e0 e1 B9 s9 => ⟨_, _, rfl, rfl, (by show 4 ≤ sizeLine; decide), fun t nt => ?_⟩⟩
      have w := (w.take s9 B9).same (same_upd (o := .tup [V.str z, .int (1 + a), .int c, .int (1 + e)]) nt)
      have dt : Dp K (upd H9 t (.tup [V.str z, .int (1 + a), .int c, .int (1 + e)])) (.ref t) (colD (z, 1 + a, c, 1 + e)) := .tup (.inl (.inl upd_same)) (.cons (.str _) (.cons (.int _) (.cons (.int _) (.cons (.int _) .nil))))
      obtain ⟨wp, dp⟩ := w.push Cr Cf dt (noL_col _)
      refine ⟨us, (w.rw _ List.mem_cons_self).2, by rw [lu, lc, sizeLine_eq]; omega, us ++ [.ref t], cs ++ [(z, 1 + a, c, 1 + e)], upd_same, by rw [List.map_append]; exact dp, by rw [List.length_append, lc]; rfl, fun x hx => ?_, wp.mono (by omega)⟩
      rcases List.mem_append.mp hx with h | h
      · exact co x h
      · rw [List.mem_singleton.mp h]
        exact ⟨nz, ⟨by show 1 ≤ 1 + a; omega, by show 1 + a ≤ 3; omega⟩, ⟨c0, by show c ≤ 3; omega⟩, by show 1 ≤ 1 + e; omega, by show 1 + e ≤ 9; omega⟩
    clear w6 nC
    rintro H7 ⟨us, cs, hC, dC, lc, co, w7⟩
    rw [List.length_map] at lc w7
    have w7 := ((w7.raw1 Cb hC).kept1 (noL_map (f := colD) noL_col cs) dC).mono (m' := n + 200) (by omega)
    clear hC dC Cr Cf
    simp only [gName, List.set]
    -- kinds
    have wR : ∀ {e}, e ∈ R → e ∈ (C, HO.lst us) :: R := fun h => List.mem_cons_of_mem _ h
    refine ⟨_, rfl, S, _, 1, _, rfl, rfl, SqL.of (w7.rw _ (wR mS)).2, rfl, L1, rfl, ⟨_, SqL.of (w7.rw _ (wR m1)).2⟩, fun D nD => ?_⟩
    obtain ⟨Db, Dr, Df⟩ := w7.new nD
    refine lc_it (walk_list (xs := y1.map V.str)) (fun j Hx => ∃ us' ks, Hx D = some (.lst us') ∧ DpAll K Hx us' (ks.map kdD) ∧ ks.length = j ∧ (∀ c ∈ ks, KdOk c) ∧ Kps K H Hx b ((C, .lst us) :: R) [(us, cs.map colD)] (n + 200 + 3 * j)) ⟨[], [], upd_same, .nil, rfl, fun _ h => (List.not_mem_nil h).elim, (w7.same (same_upd nD)).mono (by omega)⟩ (fun j Hx _ h => by
      obtain ⟨_, _, _, _, _, _, w⟩ := h
      exact SqL.of (w.rw _ (wR m1)).2) ?_ ?_
    · rintro j y _ Hx hj ⟨us', ks, hC, dC, lc', ko, w⟩ ⟨rfl, gj⟩
      rw [List.length_map] at hj
      rw [List.getElem?_map] at gj
      obtain ⟨z, gz, rfl⟩ := Option.map_eq_some_iff.mp gj
      have nz := n1 z (List.mem_of_getElem? gz)
      have lu : us'.length = ks.length := dpAll_map_len dC
      have w := (w.raw1 Db hC).kept1 (noL_map (f := kdD) noL_kd ks) dC
      refine ⟨rfl, tYes_at ?_⟩
      rw [if_pos rfl]
      refine ⟨_, rfl, _, rfl, b, 3, _, rfl, by decide, by decide, w.B, by omega, fun H8 a a0 a1 B8 s8 => ⟨_, _, rfl, rfl, ?_⟩⟩
      have w := w.take s8 B8
      refine ⟨_, rfl, b, 6, _, rfl, by decide, by decide, w.B, by omega, fun H9 e e0 e1 B9 s9 => ⟨_, _, rfl, rfl, (by show 3 ≤ sizeLine; decide), fun t nt => ?_⟩⟩
      have w := (w.take s9 B9).same (same_upd (o := .tup [V.str z, .int (1 + a), .int (1 + e)]) nt)
      have dt : Dp K (upd H9 t (.tup [V.str z, .int (1 + a), .int (1 + e)])) (.ref t) (kdD (z, 1 + a, 1 + e)) := .tup (.inl (.inl upd_same)) (.cons (.str _) (.cons (.int _) (.cons (.int _) .nil)))
      obtain ⟨wp, dp⟩ := w.push Dr Df dt (noL_kd _)
      refine ⟨us', (w.rw _ List.mem_cons_self).2, by rw [lu, lc', sizeLine_eq]; omega, us' ++ [.ref t], ks ++ [(z, 1 + a, 1 + e)], upd_same, by rw [List.map_append]; exact dp, by rw [List.length_append, lc']; rfl, fun x hx => ?_, wp.mono (by omega)⟩
      rcases List.mem_append.mp hx with h | h
      · exact ko x h
      · rw [List.mem_singleton.mp h]
        exact ⟨nz, ⟨by show 1 ≤ 1 + a; omega, by show 1 + a ≤ 3; omega⟩, by show 1 ≤ 1 + e; omega, by show 1 + e ≤ 6; omega⟩
    clear w7 nD
    rintro H8 ⟨uk, ks, hD, dD, lk, ko, w8⟩
    rw [List.length_map] at lk w8
    have w8 := ((w8.raw1 Db hD).kept1 (noL_map (f := kdD) noL_kd ks) dD).mono (m' := n + 300) (by omega)
    clear hD dD Dr Df
    simp only [gName, List.set]
    -- teams
    have wR2 : ∀ {e}, e ∈ R → e ∈ (D, HO.lst uk) :: (C, HO.lst us) :: R := fun h => List.mem_cons_of_mem _ (wR h)
    refine ⟨_, rfl, S, _, 2, _, rfl, rfl, SqL.of (w8.rw _ (wR2 mS)).2, rfl, L2, rfl, ⟨_, SqL.of (w8.rw _ (wR2 m2)).2⟩, fun G nG => ?_⟩
    obtain ⟨Gb, Gr, Gf⟩ := w8.new nG
    refine lc_it (walk_list (xs := y2.map V.str)) (fun j Hx => ∃ us' ts, Hx G = some (.lst us') ∧ DpAll K Hx us' (ts.map tmD) ∧ ts.length = j ∧ (∀ c ∈ ts, TmOk c) ∧ Kps K H Hx b ((D, .lst uk) :: (C, .lst us) :: R) [(uk, ks.map kdD), (us, cs.map colD)] (n + 300 + 3 * j)) ⟨[], [], upd_same, .nil, rfl, fun _ h => (List.not_mem_nil h).elim, (w8.same (same_upd nG)).mono (by omega)⟩ (fun j Hx _ h => by
      obtain ⟨_, _, _, _, _, _, w⟩ := h
      exact SqL.of (w.rw _ (wR2 m2)).2) ?_ ?_
    · rintro j y _ Hx hj ⟨us', ts, hC, dC, lc', to, w⟩ ⟨rfl, gj⟩
      rw [List.length_map] at hj
      rw [List.getElem?_map] at gj
      obtain ⟨z, gz, rfl⟩ := Option.map_eq_some_iff.mp gj
      have nz := n2 z (List.mem_of_getElem? gz)
      have lu : us'.length = ts.length := dpAll_map_len dC
      have w := (w.raw1 Gb hC).kept1 (noL_map (f := tmD) noL_tm ts) dC
      refine ⟨rfl, tYes_at ?_⟩
      rw [if_pos rfl]
      refine ⟨_, rfl, _, rfl, b, 3, _, rfl, by decide, by decide, w.B, by omega, fun H9 a a0 a1 B9 s9 => ⟨_, _, rfl, rfl, (by show 2 ≤ sizeLine; decide), fun t nt => ?_⟩⟩
      have w := (w.take s9 B9).same (same_upd (o := .tup [V.str z, .int (1 + a)]) nt)
      have dt : Dp K (upd H9 t (.tup [V.str z, .int (1 + a)])) (.ref t) (tmD (z, 1 + a)) := .tup (.inl (.inl upd_same)) (.cons (.str _) (.cons (.int _) .nil))
      obtain ⟨wp, dp⟩ := w.push Gr Gf dt (noL_tm _)
      refine ⟨us', (w.rw _ List.mem_cons_self).2, by rw [lu, lc', sizeLine_eq]; omega, us' ++ [.ref t], ts ++ [(z, 1 + a)], upd_same, by rw [List.map_append]; exact dp, by rw [List.length_append, lc']; rfl, fun x hx => ?_, wp.mono (by omega)⟩
      rcases List.mem_append.mp hx with h | h
      · exact to x h
      · rw [List.mem_singleton.mp h]
        exact ⟨nz, by show 1 ≤ 1 + a; omega, by show 1 + a ≤ 3; omega⟩
    clear w8 nG
    rintro H9 ⟨ug, ts, hG, dG, lt, to, w9⟩
    rw [List.length_map] at lt w9
    have w9 := ((w9.raw1 Gb hG).kept1 (noL_map (f := tmD) noL_tm ts) dG).mono (m' := n + 400) (by omega)
    clear hG dG Gr Gf
    simp only [gName, List.set]
    have wR3 : ∀ {e}, e ∈ R → e ∈ (G, HO.lst ug) :: (D, HO.lst uk) :: (C, HO.lst us) :: R := fun h => List.mem_cons_of_mem _ (wR2 h)
    have mC : (C, HO.lst us) ∈ (G, HO.lst ug) :: (D, HO.lst uk) :: (C, HO.lst us) :: R := by simp
    have mD : (D, HO.lst uk) ∈ (G, HO.lst ug) :: (D, HO.lst uk) :: (C, HO.lst us) :: R := by simp
    have mG : (G, HO.lst ug) ∈ (G, HO.lst ug) :: (D, HO.lst uk) :: (C, HO.lst us) :: R := by simp
    have mS3 := wR3 mS
    have m03 := wR3 m0
    have m33 := wR3 m3
    have mP3 := wR3 mP
    generalize (G, HO.lst ug) :: (D, HO.lst uk) :: (C, HO.lst us) :: R = R3 at w9 mC mD mG mS3 m03 m33 mP3
    clear wR wR2 wR3 mS m0 m1 m2 m3 mP
    have dU := (w9.kp _ (List.mem_cons_of_mem _ (List.mem_cons_of_mem _ List.mem_cons_self))).2
    refine ⟨_, rfl, C, us, rfl, .inl ⟨SqL.of (w9.rw _ mC).2, fun tc ntc => ?_⟩⟩
    have sc := same_upd (o := .tup us) ntc
    have dc : Dp K (upd H9 tc (.tup us)) (.ref tc) (.tuple (cs.map colD)) := .tup (.inl (.inl upd_same)) (dpAll_same sc dU)
    have w10 := (w9.same sc).kept1 (us := [.ref tc]) (ds := [.tuple (cs.map colD)]) ⟨noL_map (f := colD) noL_col cs, trivial⟩ (.cons dc .nil)
    generalize upd H9 tc (.tup us) = H10 at w10 ⊢
    clear dc sc dU w9
    refine ⟨_, rfl, _, rfl, S, _, 0, _, rfl, rfl, SqL.of (w10.rw _ mS3).2, rfl, b, L0, _, y0, rfl, w10.B, by omega, (w10.rw _ m03).1, (w10.rw _ m03).2, by omega, n0, fun H11 tw ws B11 s11 dw lw ow => ⟨(by show 2 ≤ sizeLine; decide), fun tp ntp => ?_⟩⟩
    have w11 := (w10.take s11 B11).kept1 (us := [.ref tw]) (ds := [.tuple (ws.map washD)]) ⟨noL_ws ws, trivial⟩ (.cons dw .nil)
    have sp := same_upd (o := .tup [V.ref tc, .ref tw]) ntp
    have w12 := w11.same sp
    obtain ⟨_, dtw⟩ := w12.kp _ List.mem_cons_self
    obtain ⟨_, dtc⟩ := w12.kp _ (List.mem_cons_of_mem _ List.mem_cons_self)
    have dpal : Dp K (upd H11 tp (.tup [V.ref tc, .ref tw])) (.ref tp) (palD cs ws) := by
      cases dtw with
      | cons a _ =>
        cases dtc with
        | cons c _ => exact .tup (.inl (.inl upd_same)) (.cons c (.cons a .nil))
    have noLp : noLAll.noL (palD cs ws) := ⟨noL_map (f := colD) noL_col cs, noL_ws ws, trivial⟩
    have w12 := w12.kept1 (us := [.ref tp]) (ds := [palD cs ws]) ⟨noLp, trivial⟩ (.cons dpal .nil)
    clear dtw dtc dpal w11 w10 dw
    generalize upd H11 tp (.tup [V.ref tc, .ref tw]) = H12 at w12 ⊢
    simp only [gName, List.set]
    -- slots
    refine ⟨_, rfl, b, 4, _, rfl, by decide, by decide, w12.B, by omega, fun H13 a a0 a1 B13 s13 => ?_⟩
    have w13 := w12.take s13 B13
    refine ⟨_, rfl, b, 9, _, rfl, by decide, by decide, w13.B, by omega, fun H14 c c0 c1 B14 s14 => ⟨_, _, rfl, rfl, (by show 3 ≤ sizeLine; decide), fun l nl => ?_⟩⟩
    have w14 := w13.take s14 B14
    have sl := same_upd (o := .lst [V.int a, .int (2 + c), .int 60]) nl
    have w15 := (w14.same sl).raw1 (w14.B.ne nl) upd_same
    generalize upd H14 l (.lst [V.int a, .int (2 + c), .int 60]) = H15 at w15 ⊢
    refine ⟨_, rfl, b, 3, _, rfl, by decide, by decide, w15.B, by omega, fun H16 e e0 e1 B16 s16 => ?_⟩
    have w16 := w15.take s16 B16
    obtain ⟨slo, go, g0, g60⟩ : ∃ slo : Int, atI [V.int a, .int (2 + c), .int 60] e = some (.int slo) ∧ 0 ≤ slo ∧ slo ≤ 60 := by
      have h : e = 0 ∨ e = 1 ∨ e = 2 := by omega
      rcases h with rfl | rfl | rfl
      · exact ⟨a, rfl, a0, by omega⟩
      · exact ⟨2 + c, rfl, by omega, by omega⟩
      · exact ⟨60, rfl, by decide, by decide⟩
    refine ⟨l, _, e, _, rfl, rfl, SqL.of (w16.rw _ List.mem_cons_self).2, go, ?_⟩
    have w16 := w16.sub (raw' := R3) (fun _ h => List.mem_cons_of_mem _ h) (fun _ h => h)
    clear w12 w13 w14 w15 go s13 s14 s16 B13 B14 B16
    simp only [gName, List.set]
    -- all of it
    have mk : (uk, ks.map kdD) ∈ [([V.ref tp], [palD cs ws]), ([V.ref tw], [PyData.tuple (ws.map washD)]), ([V.ref tc], [.tuple (cs.map colD)]), (ug, ts.map tmD), (uk, ks.map kdD), (us, cs.map colD)] := by simp
    have mt : (ug, ts.map tmD) ∈ [([V.ref tp], [palD cs ws]), ([V.ref tw], [PyData.tuple (ws.map washD)]), ([V.ref tc], [.tuple (cs.map colD)]), (ug, ts.map tmD), (uk, ks.map kdD), (us, cs.map colD)] := by simp
    have mp : ([V.ref tp], [palD cs ws]) ∈ [([V.ref tp], [palD cs ws]), ([V.ref tw], [PyData.tuple (ws.map washD)]), ([V.ref tc], [.tuple (cs.map colD)]), (ug, ts.map tmD), (uk, ks.map kdD), (us, cs.map colD)] := by simp
    refine ⟨_, rfl, _, rfl, D, uk, rfl, .inl ⟨SqL.of (w16.rw _ mD).2, fun tk ntk => ?_⟩⟩
    have sk := same_upd (o := .tup uk) ntk
    have htk : upd H16 tk (.tup uk) tk = some (.tup uk) := upd_same
    have w17 := w16.same sk
    generalize upd H16 tk (.tup uk) = H17 at w17 htk ⊢
    refine ⟨_, rfl, G, ug, rfl, .inl ⟨SqL.of (w17.rw _ mG).2, fun tt ntt => ?_⟩⟩
    have st := same_upd (o := .tup ug) ntt
    have htt : upd H17 tt (.tup ug) tt = some (.tup ug) := upd_same
    have htk := st _ _ htk
    have w18 := w17.same st
    generalize upd H17 tt (.tup ug) = H18 at w18 htk htt ⊢
    refine ⟨_, rfl, S, _, 3, _, rfl, rfl, SqL.of (w18.rw _ mS3).2, rfl, L3, y3.map V.str, rfl, .inl ⟨SqL.of (w18.rw _ m33).2, fun to_ nto => ?_⟩⟩
    have so := same_upd (o := .tup (y3.map V.str)) nto
    have hto : upd H18 to_ (.tup (y3.map V.str)) to_ = some (.tup (y3.map V.str)) := upd_same
    have htk := so _ _ htk
    have htt := so _ _ htt
    have w19 := w18.same so
    generalize upd H18 to_ (.tup (y3.map V.str)) = H19 at w19 htk htt hto ⊢
    clear w16 w17 w18 sk st so
    have l22 : (pool.map V.str).length = 22 := by rw [List.length_map]; exact lp
    obtain ⟨zl, gl, nzl⟩ : ∃ z, atI (pool.map V.str) (-1) = some (.str z) ∧ Nm z := by
      refine ⟨pool[21]'(by omega), ?_, np _ (List.getElem_mem _)⟩
      unfold atI
      rw [l22]
      show (pool.map V.str)[21]? = _
      rw [List.getElem?_map, List.getElem?_eq_getElem (by omega)]
      rfl
    refine ⟨_, rfl, _, rfl, _, rfl, P, _, -1, _, rfl, rfl, SqL.of (w19.rw _ mP3).2, gl, (by show 6 ≤ sizeLine; decide), fun tf ntf => ?_⟩
    have sf := same_upd (o := .tup [V.ref tp, .ref tk, .ref tt, .ref to_, .int slo, .str zl]) ntf
    have w20 := w19.same sf
    have dstr : ∀ (H : Hp) (l : List Str), DpAll K H (l.map V.str) (l.map PyData.str) := fun H l => by
      induction l with
      | nil => exact .nil
      | cons a r ih => exact .cons (.str _) ih
    have dpal : Dp K (upd H19 tf (.tup [V.ref tp, .ref tk, .ref tt, .ref to_, .int slo, .str zl])) (.ref tp) (palD cs ws) := by
      have := (w20.kp _ mp).2
      cases this with
      | cons c _ => exact c
    refine q _ tf ⟨cs, ws, ks, ts, y3, slo, zl⟩ (w20.B.mono (by omega)) w20.fr (.tup (.inl (.inl upd_same)) (.cons dpal (.cons (.tup (.inl (.inl (sf _ _ htk))) (w20.kp _ mk).2) (.cons (.tup (.inl (.inl (sf _ _ htt))) (w20.kp _ mt).2) (.cons (.tup (.inl (.inl (sf _ _ hto))) (dstr _ y3)) (.cons (.int _) (.cons (.str _) .nil))))))) ⟨by show 1 ≤ cs.length; omega, by show cs.length ≤ 12; omega, co, lw, ow, by show 1 ≤ ks.length; omega, by show ks.length ≤ 20; omega, ko, by show 1 ≤ ts.length; omega, by show ts.length ≤ 10; omega, to, u3, by show y3.length ≤ 8; omega, n3, g0, g60, nzl⟩ fun hg => ?_
    have := sm hg
    exact ⟨by show cs.length ≤ 3; omega, by show ks.length ≤ 3; omega, by show ts.length ≤ 2; omega, by show y3.length ≤ 3; omega⟩

end
end Pot

namespace Pot
open PySem PySem.Spec PyProof.Rows L2
section
variable {P : Program} {w : World} {K : PySem.W.Frag} {mg : Str → Option Value} {base : Heap}
inductive Deed where
  | fill (p c : Str)
  | gath (t p k : Str) (m : Int)
  | wash (p : Str) (h : Int)
  | empt (p : Str)
  | brk (p : Str)
  | new (p : Str) (h : Int)
def dD : Deed → PyData
  | .fill p c => .tuple [.str "fill", .str p, .str c]
  | .gath t p k m => .tuple [.str "gather", .str t, .str p, .str k, .int m]
  | .wash p h => .tuple [.str "wash", .str p, .int h]
  | .empt p => .tuple [.str "empty", .str p]
  | .brk p => .tuple [.str "break", .str p]
  | .new p h => .tuple [.str "new", .str p, .int h]
def DeedOk : Deed → Prop
  | .fill p c => Nm p ∧ Nm c
  | .gath t p k m => Nm t ∧ Nm p ∧ Nm k ∧ 1 ≤ m ∧ m ≤ 12
  | .wash p h => Nm p ∧ 0 ≤ h ∧ h ≤ 5
  | .empt p => Nm p
  | .brk p => Nm p
  | .new p h => Nm p ∧ 0 ≤ h ∧ h ≤ 5
theorem noL_dD (d : Deed) : noLAll.noL (dD d) := by
  cases d <;> (simp only [dD, noLAll.noL, noLAll, and_self])
theorem noL_hall (h : Hall) : noLAll.noL (hallD h) := by
  have s : ∀ l : List Str, noLAll (l.map PyData.str) := fun l => by
    induction l with
    | nil => trivial
    | cons a r ih => exact ⟨trivial, ih⟩
  exact ⟨⟨noL_map (f := colD) noL_col _, noL_ws _, trivial⟩, noL_map (f := kdD) noL_kd _, noL_map (f := tmD) noL_tm _, s _, trivial, trivial, trivial⟩
/-- a hall taken apart -/
theorem hall_at {H : Hp} {v : V} {h : Hall} (d : Dp K H v (hallD h)) : ∃ a pa ka ta po pc us uk ut, v = .ref a ∧ SqT K H a [.ref pa, .ref ka, .ref ta, .ref po, .int h.sl, .str h.st] ∧ (∃ x, SqT K H pa [.ref pc, x]) ∧ Dp K H (.ref pa) (palD h.cs h.ws) ∧ Dp K H (.ref ka) (.tuple (h.ks.map kdD)) ∧ Dp K H (.ref ta) (.tuple (h.ts.map tmD)) ∧ SqT K H pc us ∧ DpAll K H us (h.cs.map colD) ∧ SqT K H ka uk ∧ DpAll K H uk (h.ks.map kdD) ∧ SqT K H ta ut ∧ DpAll K H ut (h.ts.map tmD) ∧ SqT K H po (h.ps.map V.str) := by
  obtain ⟨cs, ws, ks, ts, ps, sl, st⟩ := h
  cases d with
  | tup ha d =>
    cases d with
    | cons d1 d =>
      cases d with
      | cons d2 d =>
        cases d with
        | cons d3 d =>
          cases d with
          | cons d4 d =>
            cases d with
            | cons d5 d =>
              cases d with
              | cons d6 d =>
                cases d
                cases d5
                cases d6
                have e1 := d1
                have e2 := d2
                have e3 := d3
                cases d1 with
                | tup h1 f =>
                  cases f with
                  | cons f1 f =>
                    cases f with
                    | cons f2 f =>
                      cases f
                      cases f1 with
                      | tup hc dc =>
                        cases d2 with
                        | tup h2 dk =>
                          cases d3 with
                          | tup h3 dt =>
                            cases d4 with
                            | tup h4 dp =>
                              have sss_ : ∀ (l : List Str) (xs : List V), DpAll K H xs (l.map PyData.str) → xs = l.map V.str := fun l => by
                                induction l with
                                | nil => intro xs h; cases h; rfl
                                | cons a r ih =>
                                  intro xs h
                                  cases h with
                                  | cons x t =>
                                    cases x
                                    rw [ih _ t]; rfl
                              have e := sss_ ps _ dp
                              subst e
                              exact ⟨_, _, _, _, _, _, _, _, _, rfl, ha, ⟨_, h1⟩, e1, e2, e3, hc, dc, h2, dk, h3, dt, h4⟩
abbrev s__law_a_deed : Stmt := topS 13
def n__law_a_deed : List Str := ["_law_box", "_law_hall", "_law_names", "_law_some", "_law_colour", "_law_kind", "_law_team", "_law_pot", "_law_way", "_law_many"]
theorem sc__law_a_deed : FnScope n__law_a_deed ["_law_box", "_law_hall"] (defScope s__law_a_deed) := ⟨rfl, rfl, rfl, by decide +kernel, rfl, by decide +kernel, by decide +kernel⟩
def spADeed (K : PySem.W.Frag) : Sp := fun vs H Q _ => ∃ (b : Addr) (n : Nat) (hv : V) (h : Hall), vs = [.ref b, hv] ∧ Bp H b n ∧ n + 1000 < 2 ^ 40 ∧ Dp K H hv (hallD h) ∧ HallOk h ∧
  ∀ (H' : Hp) (x : V) (d : Deed), Bp H' b (n + 40) → Sm [b] H H' → Dp K H' x (dD d) → DeedOk d → Q x H'
set_option maxHeartbeats 1000000 in
theorem ok_adeed {f : Addr} {fd : FuncData} {k : Nat} (F : Fun K "_law_a_deed" "_law_a_deed" s__law_a_deed f fd) (T : Txt mg) (c__law_take : Cl P w K mg base 1 "_law_take" spTake) (c__law_pick : Cl P w K mg base 2 "_law_pick" (spPick K)) : FnOk P w K mg base CX0 (k + 3) f fd ["_law_box", "_law_hall"] (spADeed K) := by
  refine F.ok sc__law_a_deed (fun vs H Q E h => ?_) (fun cdv A outer s H vs Q E hr h => ?_)
  · obtain ⟨b, n, hv, h, rfl, _⟩ := h
    rfl
  · obtain ⟨b, n, hv, h, rfl, B, hn, dh, ok, q⟩ := h
    have nd := sc__law_a_deed.nd
    /- 0 _law_box, 1 _law_hall, 2 _law_names, 3 _law_some, 4 _law_colour, 5 _law_kind, 6 _law_team, 7 _law_pot, 8 _law_way, 9 _law_many -/
    refine ⟨_, (pss_cons (ps_set (i := 2) nd rfl (.inl rfl) (pe_lst pa_nil))
      (pss_cons (ps_for PassesOwn.never rfl (ki_tup (K := K) (pe_tup (pa_cons (pe_ix (kx_tup (K := K)) (pe_ix (kx_tup (K := K)) (pv 1) pe_int (fun _ _ => rfl)) pe_int (fun _ _ => rfl)) (pa_cons (pe_ix (kx_tup (K := K)) (pv 1) pe_int (fun _ _ => rfl)) (pa_cons (pe_ix (kx_tup (K := K)) (pv 1) pe_int (fun _ _ => rfl)) pa_nil))))) (pg_name (i := 3) nd rfl (.inl rfl))
          (pss_one (ps_expr (pe_bm PySem.F.plainAttrs_list PySem.F.slot_list_append PySem.F.type_list_append mt_append (pv 2) (pa_cons (pe_ifExp (pt_cmpR op_gt (pe_cl c__law_take hr (by omega) (by rfl) (pa_cons (pv 0) (pa_cons pe_int pa_nil))) pe_int (nomark _)) (pe_ix (kx_tup (K := K)) (pe_cl c__law_pick hr (by omega) (by rfl) (pa_cons (pv 0) (pa_cons (pv 3) pa_nil))) pe_int (fun _ _ => rfl)) (pe_ix (kx_tup (K := K)) (pv 1) pe_int (fun _ _ => rfl))) pa_nil)))))
      (pss_cons (ps_asg (pv 2) (pg_unl (n := 3) rfl (pgs_cons (pg_name (i := 4) nd rfl (.inl rfl)) (pgs_cons (pg_name (i := 5) nd rfl (.inl rfl)) (pgs_cons (pg_name (i := 6) nd rfl (.inl rfl)) pgs_nil)))))
      (pss_cons (ps_set (i := 7) nd rfl (.inl rfl) (pe_ifExp (pt_cmpR op_gt (pe_cl c__law_take hr (by omega) (by rfl) (pa_cons (pv 0) (pa_cons pe_int pa_nil))) pe_int (nomark _)) (pe_cl c__law_pick hr (by omega) (by rfl) (pa_cons (pv 0) (pa_cons (pe_ix (kx_tup (K := K)) (pv 1) pe_int (fun _ _ => rfl)) pa_nil))) (pe_ix (kx_tup (K := K)) (pv 1) pe_int (fun _ _ => rfl))))
      (pss_cons (ps_par (i := 8) (j := 9) rfl nd rfl rfl (by decide) rfl rfl (pa_cons (pe_cl c__law_take hr (by omega) (by rfl) (pa_cons (pv 0) (pa_cons pe_int pa_nil))) (pa_cons (pe_op op_add pe_int (pe_cl c__law_take hr (by omega) (by rfl) (pa_cons (pv 0) (pa_cons (pe_ix (kx_list (K := K)) (pe_lst (pa_cons pe_int (pa_cons pe_int (pa_cons pe_int (pa_cons pe_int pa_nil))))) (pe_cl c__law_take hr (by omega) (by rfl) (pa_cons (pv 0) (pa_cons pe_int pa_nil))) (fun _ _ => rfl)) pa_nil)))) pa_nil)) rfl)
      (pss_cons (ps_if (pt_cmpR op_lt (pv 8) pe_int (nomark _))
          (pss_one (ps_ret (pe_tup (pa_cons pe_str (pa_cons (pv 7) (pa_cons (pv 4) pa_nil))))))
          pss_nil)
      (pss_cons (ps_if (pt_cmpR op_lt (pv 8) pe_int (nomark _))
          (pss_one (ps_ret (pe_tup (pa_cons pe_str (pa_cons (pv 6) (pa_cons (pv 7) (pa_cons (pv 5) (pa_cons (pv 9) pa_nil))))))))
          pss_nil)
      (pss_cons (ps_if (pt_cmpR op_lt (pv 8) pe_int (nomark _))
          (pss_one (ps_ret (pe_tup (pa_cons pe_str (pa_cons (pv 7) (pa_cons (pe_cl c__law_take hr (by omega) (by rfl) (pa_cons (pv 0) (pa_cons pe_int pa_nil))) pa_nil))))))
          pss_nil)
      (pss_one (ps_ret (pe_ix (kx_list (K := K)) (pe_lst (pa_cons (pe_tup (pa_cons pe_str (pa_cons (pv 7) pa_nil))) (pa_cons (pe_tup (pa_cons pe_str (pa_cons (pv 7) pa_nil))) (pa_cons (pe_tup (pa_cons pe_str (pa_cons (pv 7) (pa_cons (pe_cl c__law_take hr (by omega) (by rfl) (pa_cons (pv 0) (pa_cons pe_int pa_nil))) pa_nil)))) pa_nil)))) (pe_op op_sub (pv 8) pe_int) (fun _ _ => rfl)))))))))))), ?_⟩
    obtain ⟨a, pa, ka, ta, po, pc, us, uk, ut, rfl, ha, ⟨x0, hpa⟩, _, d2, d3, hc, dc, _, _, _, _, _⟩ := hall_at dh
    have wK : Kps K H H b [] [([.ref a], [hallD h]), ([.ref pc, .ref ka, .ref ta], [.tuple (h.cs.map colD), .tuple (h.ks.map kdD), .tuple (h.ts.map tmD)])] n := ⟨B, sm_of (Same.refl _), fun _ h => (List.not_mem_nil h).elim, fun e he => by
      simp only [List.mem_cons, List.not_mem_nil, or_false] at he
      rcases he with rfl | rfl
      · exact ⟨⟨noL_hall h, trivial⟩, .cons dh .nil⟩
      · exact ⟨⟨noL_map (f := colD) noL_col _, noL_map (f := kdD) noL_kd _, noL_map (f := tmD) noL_tm _, trivial⟩, .cons (.tup hc dc) (.cons d2 (.cons d3 .nil))⟩⟩
    refine ⟨Nat.zero_le _, fun N nN => ?_⟩
    obtain ⟨Nb, _, Nf⟩ := wK.new nN
    have wK := wK.same (same_upd (o := .lst []) nN)
    have s0 := same_upd (o := .lst []) nN
    have hN : upd H N (.lst []) N = some (.lst []) := upd_same
    have ha := same_tup s0 ha
    have hpa := same_tup s0 hpa
    generalize upd H N (.lst []) = H1 at wK hN ha hpa ⊢
    simp only [gName, List.set]
    refine ⟨_, rfl, a, _, 0, _, rfl, rfl, ha, rfl, pa, _, 0, _, rfl, rfl, hpa, rfl, _, rfl, a, _, 1, _, rfl, rfl, ha, rfl, _, rfl, a, _, 2, _, rfl, rfl, ha, rfl, (by show 3 ≤ sizeLine; decide), fun tp ntp => ?_⟩
    have tb := wK.B.ne ntp
    have tN := (ne_of_none hN ntp).symm
    have s1 := same_upd (o := .tup [V.ref pc, .ref ka, .ref ta]) ntp
    have htp : upd H1 tp (.tup [V.ref pc, .ref ka, .ref ta]) tp = some (.tup [V.ref pc, .ref ka, .ref ta]) := upd_same
    have wK := wK.same s1
    have hN := s1 _ _ hN
    have wK := wK.raw1 tb htp
    generalize upd H1 tp (.tup [V.ref pc, .ref ka, .ref ta]) = H2 at wK hN ⊢
    obtain ⟨xs, exs⟩ : ∃ xs, xs = [V.ref pc, .ref ka, .ref ta] := ⟨_, rfl⟩
    obtain ⟨ds, eds⟩ : ∃ ds, ds = [PyData.tuple (h.cs.map colD), .tuple (h.ks.map kdD), .tuple (h.ts.map tmD)] := ⟨_, rfl⟩
    have nmr : ∀ d ∈ ds, ∃ rs, d = .tuple rs ∧ 0 < rs.length ∧ rs.length ≤ 60 ∧ ∀ r ∈ rs, ∃ z t, r = .tuple (.str z :: t) ∧ Nm z := fun d hd => by
      rw [eds] at hd
      simp only [List.mem_cons, List.not_mem_nil, or_false] at hd
      rcases hd with rfl | rfl | rfl
      · refine ⟨_, rfl, by rw [List.length_map]; exact ok.c1, by rw [List.length_map]; have := ok.c2; omega, fun r hr => ?_⟩
        obtain ⟨c, hc, rfl⟩ := List.mem_map.mp hr
        exact ⟨_, _, rfl, (ok.co c hc).1⟩
      · refine ⟨_, rfl, by rw [List.length_map]; exact ok.k1, by rw [List.length_map]; have := ok.k2; omega, fun r hr => ?_⟩
        obtain ⟨c, hc, rfl⟩ := List.mem_map.mp hr
        exact ⟨_, _, rfl, (ok.ko c hc).1⟩
      · refine ⟨_, rfl, by rw [List.length_map]; exact ok.t1, by rw [List.length_map]; have := ok.t2; omega, fun r hr => ?_⟩
        obtain ⟨c, hc, rfl⟩ := List.mem_map.mp hr
        exact ⟨_, _, rfl, (ok.to c hc).1⟩
    have lds : ds.length = 3 := by rw [eds]; rfl
    have lxs : xs.length = 3 := by rw [exs]; rfl
    rw [← exs, ← eds] at wK
    clear eds hc dc d2 d3 ha hpa s0 s1 ntp nN dh
    refine ⟨tp, rfl, ⟨_, .inl (.inl (wK.rw _ List.mem_cons_self).2)⟩, ?_⟩
    have mH : ([V.ref a], [hallD h]) ∈ [([V.ref a], [hallD h]), (xs, ds)] := by simp
    have mX : (xs, ds) ∈ [([V.ref a], [hallD h]), (xs, ds)] := by simp
    -- a name of the strange one
    have strange : ∀ {Hx : Hp} {m : Nat} {raw : List (Addr × HO)}, Kps K H Hx b raw [([V.ref a], [hallD h]), (xs, ds)] m → ∃ vs, SqT K Hx a vs ∧ atI vs 5 = some (.str h.st) := fun {Hx m raw} w => by
      have := (w.kp _ mH).2
      cases this with
      | cons dh _ =>
        obtain ⟨a', _, _, _, _, _, _, _, _, e, ha, _⟩ := hall_at dh
        cases e
        exact ⟨_, ha, rfl⟩
    refine for_it (walk_tup (xs := xs)) (fun j σ Hx => ∃ v3 ns, σ = [some (.ref b), some (.ref a), some (.ref N), v3, none, none, none, none, none, none] ∧ Kps K H Hx b [(tp, .tup xs)] [([V.ref a], [hallD h]), (xs, ds)] (n + 3 * j) ∧ Hx N = some (.lst (ns.map V.str)) ∧ ns.length = j ∧ ∀ z ∈ ns, Nm z) ⟨_, [], rfl, wK, hN, rfl, fun _ h => (List.not_mem_nil h).elim⟩ (fun j σ Hx _ h => by
      obtain ⟨_, _, _, w, _⟩ := h
      exact (.inl (.inl (w.rw _ List.mem_cons_self).2) : SqT K Hx tp _)) ?_ ?_
    · clear wK hN
      rintro j y σ _ Hx hj ⟨v3, ns, rfl, w, hN, ln, ok2⟩ ⟨rfl, gy⟩
      obtain ⟨d, gd_, dp⟩ := dpAll_at (w.kp _ mX).2 gy
      obtain ⟨rs, rfl, r0, r60, hr_⟩ := nmr d (List.mem_of_getElem? gd_)
      simp only [gName, List.set]
      refine ⟨_, rfl, .inl ⟨rfl, _, SqL.of hN⟩, _, rfl, b, 14, _, rfl, by decide, by decide, w.B, by omega, fun H3 r r1 r2 B3 s3 => ⟨_, _, rfl, rfl, _, rfl, ?_⟩⟩
      have w3 := w.take s3 B3
      have hN3 := sm1_at s3 Nb hN
      have noLd : noLAll.noL (PyData.tuple rs) := by
        have := (w.kp _ mX).1
        exact (show ∀ (l : List PyData) (i : Nat) (d : PyData), noLAll l → l[i]? = some d → noLAll.noL d from fun l => by
          induction l with
          | nil => intro i d _ g; cases g
          | cons x l ih =>
            intro i d nl g
            cases i with
            | zero => cases g; exact nl.1
            | succ i => exact ih i d nl.2 g) ds j _ this gd_
      have dp3 := dp_nt dp noLd s3 (bp_nt w.B)
      refine ite_te (fun x Hx' => ∃ z, x = .str z ∧ Nm z ∧ Kps K H Hx' b [(tp, .tup xs)] [([V.ref a], [hallD h]), (xs, ds)] (n + 3 * j + 2) ∧ Hx' N = some (.lst (ns.map V.str))) (fun Q1 kk hh => ?_) (fun Q1 kk hh => ?_) ?_
      · cases dp3 with
        | @tup L vs _ hL dv =>
          refine ⟨_, rfl, _, rfl, b, _, _, rfl, w3.B, by omega, .inr (.inr ⟨L, vs, rfl, hL, by rw [dpAll_len dv]; exact r0, by rw [dpAll_len dv]; omega, fun H4 i v gv B4 s4 => ?_⟩)⟩
          obtain ⟨d', gd', dv'⟩ := dpAll_at dv gv
          obtain ⟨z, t, rfl, nz⟩ := hr_ d' (List.mem_of_getElem? gd')
          have w4 := w3.take s4 B4
          cases dv' with
          | @tup L2 ws _ h2 dw =>
            cases dw with
            | cons e _ =>
              cases e
              exact ⟨L2, _, 0, _, rfl, rfl, sqT_nt h2 s4 (bp_nt w3.B), atI_nat (j := 0) rfl, kk _ _ ⟨z, rfl, nz, w4, sm1_at s4 Nb hN3⟩⟩
      · obtain ⟨vs, h1, h2⟩ := strange w3
        exact ⟨_, rfl, a, vs, 5, _, rfl, rfl, h1, h2, kk _ _ ⟨_, rfl, ok.so, w3.mono (by omega), hN3⟩⟩
      rintro x Hx' ⟨z, rfl, nz, w4, hN4⟩
      refine ⟨N, _, _, rfl, rfl, hN4, by rw [List.length_map, ln, sizeLine_eq]; omega, ?_⟩
      refine ⟨_, ns ++ [z], rfl, (w4.put hN4 Nb (fun e he => ?_) Nf).mono (by omega), by rw [upd_same, List.map_append]; rfl, by rw [List.length_append, ln]; rfl, fun x hx => ?_⟩
      · rw [List.mem_singleton.mp he]; exact tN
      · rcases List.mem_append.mp hx with h | h
        · exact ok2 x h
        · rw [List.mem_singleton.mp h]; exact nz
    rintro σ H3 ⟨v3, ns, rfl, w, hN, ln, okn⟩
    rw [lxs] at ln w
    obtain ⟨co, ki, te, rfl⟩ : ∃ a b c, ns = [a, b, c] := by
      match ns, ln with
      | [a, b, c], _ => exact ⟨a, b, c, rfl⟩
    have nco := okn co (by simp)
    have nki := okn ki (by simp)
    have nte := okn te (by simp)
    clear okn wK nmr lds lxs
    refine ⟨_, rfl, N, _, rfl, SqL.of hN, rfl, ?_⟩
    refine ⟨_, _, rfl, _, _, rfl, _, _, rfl, rfl, ?_⟩
    simp only [gName, List.set]
    have w := w.sub (raw' := []) (fun _ h => (List.not_mem_nil h).elim) (fun _ h => h)
    clear hN ln strange
    have strange : ∀ {Hx : Hp} {m : Nat} {raw : List (Addr × HO)}, Kps K H Hx b raw [([V.ref a], [hallD h]), (xs, ds)] m → ∃ vs po, SqT K Hx a vs ∧ atI vs 5 = some (.str h.st) ∧ atI vs 3 = some (.ref po) ∧ SqT K Hx po (h.ps.map V.str) := fun {Hx m raw} w => by
      have := (w.kp _ mH).2
      cases this with
      | cons dh _ =>
        obtain ⟨a', _, _, _, po, _, _, _, _, e, ha, _, _, _, _, _, _, _, _, _, _, hp⟩ := hall_at dh
        cases e
        exact ⟨_, po, ha, rfl, rfl, hp⟩
    refine ⟨_, rfl, b, 20, _, rfl, by decide, by decide, w.B, by omega, fun H4 r r1 r2 B4 s4 => ⟨_, _, rfl, rfl, _, rfl, ?_⟩⟩
    have w4 := w.take s4 B4
    refine ite_te (fun x Hx' => ∃ z, x = .str z ∧ Nm z ∧ Kps K H Hx' b [] [([V.ref a], [hallD h]), (xs, ds)] (n + 15)) (fun Q1 kk hh => ?_) (fun Q1 kk hh => ?_) ?_
    · obtain ⟨vs, po, h1, _, h3, h4⟩ := strange w4
      refine ⟨_, rfl, _, rfl, a, vs, 3, _, rfl, rfl, h1, h3, b, _, _, rfl, w4.B, by omega, .inr (.inr ⟨po, _, rfl, h4, by rw [List.length_map]; exact ok.p1, by rw [List.length_map]; have := ok.p2; omega, fun H5 i v gv B5 s5 => ?_⟩)⟩
      rw [List.getElem?_map] at gv
      obtain ⟨z, gz, rfl⟩ := Option.map_eq_some_iff.mp gv
      exact kk _ _ ⟨z, rfl, ok.po z (List.mem_of_getElem? gz), (w4.take s5 B5).mono (by omega)⟩
    · obtain ⟨vs, po, h1, h2, _⟩ := strange w4
      exact ⟨_, rfl, a, vs, 5, _, rfl, rfl, h1, h2, kk _ _ ⟨_, rfl, ok.so, w4.mono (by omega)⟩⟩
    rintro x H5 ⟨pt, rfl, npt, w5⟩
    simp only [gName, List.set]
    refine ⟨_, rfl, b, 16, _, rfl, by decide, by decide, w5.B, by omega, fun H6 wy wy0 wy1 B6 s6 => ?_⟩
    have w6 := w5.take s6 B6
    refine ⟨_, rfl, (by show 4 ≤ sizeLine; decide), fun l nl => ?_⟩
    have w7 := (w6.same (same_upd (o := .lst [V.int 2, .int 2, .int 5, .int 12]) nl)).raw1 (w6.B.ne nl) upd_same
    generalize upd H6 l (.lst [V.int 2, .int 2, .int 5, .int 12]) = H7 at w7 ⊢
    refine ⟨_, rfl, b, 4, _, rfl, by decide, by decide, w7.B, by omega, fun H8 e e0 e1 B8 s8 => ?_⟩
    have w8 := w7.take s8 B8
    obtain ⟨mm, gm, m1, m2⟩ : ∃ mm : Int, atI [V.int 2, .int 2, .int 5, .int 12] e = some (.int mm) ∧ 1 ≤ mm ∧ mm ≤ 12 := by
      have h : e = 0 ∨ e = 1 ∨ e = 2 ∨ e = 3 := by omega
      rcases h with rfl | rfl | rfl | rfl
      · exact ⟨2, rfl, by decide, by decide⟩
      · exact ⟨2, rfl, by decide, by decide⟩
      · exact ⟨5, rfl, by decide, by decide⟩
      · exact ⟨12, rfl, by decide, by decide⟩
    refine ⟨l, _, e, _, rfl, rfl, SqL.of (w8.rw _ List.mem_cons_self).2, gm, b, mm, _, rfl, by omega, by omega, w8.B, by omega, fun H9 g g0 g1 B9 s9 => ⟨_, _, rfl, rfl, _, _, rfl, ?_⟩⟩
    have w9 := (w8.take s9 B9).sub (raw' := []) (fun _ h => (List.not_mem_nil h).elim) (fun _ h => h)
    clear w w4 w5 w6 w7 w8 gm s6 s8 s9 B6 B8 B9 strange
    simp only [gName, List.set]
    have fin : ∀ {Hx : Hp} {raw : List (Addr × HO)} {m : Nat} {t : Addr} {us : List V} {d : Deed}, Kps K H Hx b raw [([V.ref a], [hallD h]), (xs, ds)] m → m ≤ n + 30 → Hx t = none → Dp K (upd Hx t (.tup us)) (.ref t) (dD d) → DeedOk d → Q (.ref t) (upd Hx t (.tup us)) := fun w hm nt dt od => q _ _ _ (((w.same (same_upd nt)).B).mono (by omega)) (w.same (same_upd nt)).fr dt od
    refine ⟨_, rfl, _, _, rfl, rfl, _, rfl, ite2 (fun _ => ?_) (fun _ => ?_)⟩
    · exact ⟨_, rfl, _, rfl, (by show 3 ≤ sizeLine; decide), fun t nt => fin (d := .fill pt co) w9 (by omega) nt (.tup (.inl (.inl upd_same)) (.cons (.str _) (.cons (.str _) (.cons (.str _) .nil)))) ⟨npt, nco⟩⟩
    refine ⟨_, rfl, _, _, rfl, rfl, _, rfl, ite2 (fun _ => ?_) (fun _ => ?_)⟩
    · exact ⟨_, rfl, _, rfl, _, rfl, _, rfl, (by show 5 ≤ sizeLine; decide), fun t nt => fin (d := .gath te pt ki (1 + g)) w9 (by omega) nt (.tup (.inl (.inl upd_same)) (.cons (.str _) (.cons (.str _) (.cons (.str _) (.cons (.str _) (.cons (.int _) .nil)))))) ⟨nte, npt, nki, by omega, by omega⟩⟩
    refine ⟨_, rfl, _, _, rfl, rfl, _, rfl, ite2 (fun _ => ?_) (fun h13 => ?_)⟩
    · refine ⟨_, rfl, _, rfl, b, 6, _, rfl, by decide, by decide, w9.B, by omega, fun H10 e e0 e1 B10 s10 => ⟨(by show 3 ≤ sizeLine; decide), fun t nt => ?_⟩⟩
      exact fin (d := .wash pt e) (w9.take s10 B10) (by omega) nt (.tup (.inl (.inl upd_same)) (.cons (.str _) (.cons (.str _) (.cons (.int _) .nil)))) ⟨npt, e0, by omega⟩
    have h13 : 13 ≤ wy := by
      rcases Int.lt_or_le wy 13 with h | h
      · exact absurd (decide_eq_true h) h13
      · exact h
    refine ⟨_, rfl, (by show 2 ≤ sizeLine; decide), fun t1 n1 => ?_⟩
    have s1 := same_upd (o := .tup [V.str "empty", .str pt]) n1
    have h1 : upd H9 t1 (.tup [V.str "empty", .str pt]) t1 = some (.tup [V.str "empty", .str pt]) := upd_same
    have w10 := w9.same s1
    generalize upd H9 t1 (.tup [V.str "empty", .str pt]) = H10 at w10 h1 ⊢
    refine ⟨_, rfl, (by show 2 ≤ sizeLine; decide), fun t2 n2 => ?_⟩
    have s2 := same_upd (o := .tup [V.str "break", .str pt]) n2
    have h2 : upd H10 t2 (.tup [V.str "break", .str pt]) t2 = some (.tup [V.str "break", .str pt]) := upd_same
    have h1 := s2 _ _ h1
    have w11 := w10.same s2
    generalize upd H10 t2 (.tup [V.str "break", .str pt]) = H11 at w11 h1 h2 ⊢
    refine ⟨_, rfl, _, rfl, b, 5, _, rfl, by decide, by decide, w11.B, by omega, fun H12 e e0 e1 B12 s12 => ⟨(by show 3 ≤ sizeLine; decide), fun t3 n3 => ?_⟩⟩
    have n12 : ∀ {t : Addr} {us : List V}, H11 t = some (.tup us) → H12 t = some (.tup us) := fun {t us} g => by
      obtain ⟨_, _, _, hb, _⟩ := w11.B
      exact sm1_at s12 (fun z => by rw [z, hb] at g; cases g) g
    have h1 := n12 h1
    have h2 := n12 h2
    have w12 := w11.take s12 B12
    have s3 := same_upd (o := .tup [V.str "new", .str pt, .int e]) n3
    have h3 : upd H12 t3 (.tup [V.str "new", .str pt, .int e]) t3 = some (.tup [V.str "new", .str pt, .int e]) := upd_same
    have h1 := s3 _ _ h1
    have h2 := s3 _ _ h2
    have w13 := w12.same s3
    generalize upd H12 t3 (.tup [V.str "new", .str pt, .int e]) = H13 at w13 h1 h2 h3 ⊢
    refine ⟨(by show 3 ≤ sizeLine; decide), fun l4 n4 => ?_⟩
    have s4 := same_upd (o := .lst [V.ref t1, .ref t2, .ref t3]) n4
    have h1 := s4 _ _ h1
    have h2 := s4 _ _ h2
    have h3 := s4 _ _ h3
    have w14 := w13.same s4
    obtain ⟨v, d, gv, dv, od⟩ : ∃ (v : V) (d : Deed), atI [V.ref t1, .ref t2, .ref t3] (wy - 13) = some v ∧ Dp K (upd H13 l4 (.lst [V.ref t1, .ref t2, .ref t3])) v (dD d) ∧ DeedOk d := by
      have h : wy - 13 = 0 ∨ wy - 13 = 1 ∨ wy - 13 = 2 := by omega
      rcases h with h | h | h <;> rw [h]
      · exact ⟨_, .empt pt, rfl, .tup (.inl (.inl h1)) (.cons (.str _) (.cons (.str _) .nil)), npt⟩
      · exact ⟨_, .brk pt, rfl, .tup (.inl (.inl h2)) (.cons (.str _) (.cons (.str _) .nil)), npt⟩
      · exact ⟨_, .new pt e, rfl, .tup (.inl (.inl h3)) (.cons (.str _) (.cons (.str _) (.cons (.int _) .nil))), npt, e0, by omega⟩
    exact ⟨_, rfl, _, _, rfl, rfl, l4, _, _, _, rfl, rfl, SqL.of upd_same, gv, q _ _ d (w14.B.mono (by omega)) w14.fr dv od⟩

end
end Pot

namespace Pot
open PySem PySem.Spec PyProof.Rows L2
section
variable {P : Program} {w : World} {K : PySem.W.Frag} {mg : Str → Option Value} {base : Heap}
/-! ### NoSuch -/
abbrev s_NoSuch : Stmt := inClass (topS 1) 0
def leTail : List Value := [.type "LookupError", .type "Exception", .type "BaseException", .type "object"]
/-- what stands of NoSuch at C, its __init__ at fI -/
structure NsK (P : Program) (K : PySem.W.Frag) (mg : Str → Option Value) (C fI : Addr) : Prop where
  gl : mg "NoSuch" = some (.ref C)
  ex : RSup.OexB K C "LookupError.__new__" leTail
  sup : RSup.SupC P K mg C "LookupError.__init__" "LookupError"
  ini : PySem.W.findIn K (.ref C) "__init__" = some (some (.ref fI))
  tyI : PySem.W.typeIn K (.ref fI) = some (.type "function")
  wh : PySem.W.findIn K (.ref C) "what" = some none
  na : PySem.W.findIn K (.ref C) "name" = some none
theorem scNS : RSup.ScopeS ["self", "what", "name"] ["self", "what", "name"] (defScope s_NoSuch) := ⟨rfl, rfl, rfl, by decide +kernel, rfl, by decide +kernel, by decide +kernel, by decide +kernel⟩
def spNS (C : Addr) : Sp := fun vs H Q _ => ∃ (a : Addr) (z : Str) (y : V), vs = [.ref a, .str z, y] ∧ z.length ≤ 1000 ∧ H a = some (exo a C none) ∧
  ∀ d, H d = none → d ≠ a → Q .non (upd (upd (upd H d (exd d [("what", .str z)])) a (exo a C (some d))) d (exd d [("name", y), ("what", .str z)]))
theorem ok_ns {CX : CXT} {f C fI : Addr} {fd : FuncData} {k : Nat} (F : RSup.FunS P K "__init__" "NoSuch.__init__" s_NoSuch f C fd) (N : NsK P K mg C fI) : FnOk P w K mg base CX (k + 1) f fd ["self", "what", "name"] (spNS C) := by
  refine RSup.fn_supr F PySem.F.excBase_LookupError N.ex N.sup scNS rfl rfl rfl rfl rfl rfl (fun vs H Q E h => ?_) (fun cda cc A outer s H vs Q E hr h => ?_)
  · obtain ⟨a, z, y, rfl, _⟩ := h
    rfl
  · obtain ⟨a, z, y, rfl, hz, ha, q⟩ := h
    refine ⟨a, _, _, rfl, ha, pa_cons (pe_joined (.cons pe_str (.cons (pe_fmt (pv 1)) .nil))) pa_nil, pss_cons (RSup.ps_ostB (newId := "LookupError.__new__") PySem.F.store_LookupError (pv 0) (pv 1)) (pss_one (RSup.ps_ostB (newId := "LookupError.__new__") PySem.F.store_LookupError (pv 0) (pv 2))), ?_⟩
    have l8 : (Str.empty ++ Str.ofString "no such ").length = 8 := by decide +kernel
    refine ⟨_, rfl, (by rw [l8]; decide), _, rfl, .inl ⟨z, rfl, Nat.le_trans hz (by decide), _, rfl, ?_, ?_⟩⟩
    · rw [Str.length_append, l8, sizeLine_eq]
      omega
    refine ⟨(by show 1 ≤ 1000; decide), ha, ?_⟩
    refine ⟨_, rfl, _, rfl, a, C, rfl, N.ex, N.wh, .inl ⟨ha, fun d nd ne => ?_⟩⟩
    exact ⟨_, rfl, _, rfl, a, C, rfl, N.ex, N.na, .inr ⟨d, _, upd_same, (upd_ne ne).trans upd_same, (by show 1 ≤ 900; decide), q d nd ne⟩⟩
/-- a def that may raise, called by its name -/
def ClX (P : Program) (w : World) (K : PySem.W.Frag) (mg : Str → Option Value) (base : Heap) (k : Nat) (x : Str) (sp : Sp) : Prop :=
  ∃ (f : Addr) (fd : FuncData) (ps : List Str), FnOk P w K mg base (L2.CX P w) k f fd ps sp ∧ mg x = some (.ref f) ∧ PySem.W.keepIn K (.ref f) = true ∧ Binds K fd ps []
theorem pe_clX {X : Cx} {W : WX} {k j : Nat} {x : Str} {sp : Sp} {e : Expr} {es : List Expr} {t : TA} {p pos : Pos} (c : ClX X.prog X.w X.K X.mg X.base k x sp) (room : Room j X.A) (le : k ≤ j) (glob : Gl X x) (tk : Takes X W) (args : PA X (e :: es) t)
    (dbg : (x == ("__debug__" : Str)) = false := by decide) (plain : starEach (e :: es) X.env = (false, eval e X.env) :: starEach es X.env := by rfl) (none_ : (backTo pos (starEach es X.env)).any (·.1) = false := by rfl) :
    PE X (.Call (.Name x p) (e :: es) [] pos) (tCallS sp (WE W) t) := by
  obtain ⟨f, fd, ps, G, at_, kp, b⟩ := c
  exact pe_callS G (room.mono le) glob at_ kp b (fun σ => passAt tk σ) args dbg plain none_
/-- NoSuch may be made -/
def NsR (P : Program) (w : World) (K : PySem.W.Frag) (mg : Str → Option Value) (base : Heap) (k : Nat) (C : Addr) : Prop :=
  ∃ (fI : Addr) (fd : FuncData), NsK P K mg C fI ∧ FnOk P w K mg base CX0 k fI fd ["self", "what", "name"] (spNS C) ∧ Binds K fd ["self", "what", "name"] []
theorem pmk_ns {X : Cx} {k j : Nat} {C : Addr} {e : Expr} {es : List Expr} {ta : TA} {p pos : Pos} (c : NsR X.prog X.w X.K X.mg X.base k C) (room : Room (j + 1) X.A) (le : k ≤ j) (glob : Gl X "NoSuch") (args : PA X (e :: es) ta)
    (plain : starEach (e :: es) X.env = (false, eval e X.env) :: starEach es X.env := by rfl) (none_ : (backTo pos (starEach es X.env)).any (·.1) = false := by rfl) :
    PMk X (.Call (.Name "NoSuch" p) (e :: es) [] pos) (tMkO C (spNS C) [] ta) := by
  obtain ⟨fI, fd, N, G, b⟩ := c
  exact RSup.pmk_oexB PySem.F.excBase_LookupError N.ex N.ini N.tyI (G.mono le) room b .nil pass0 glob N.gl args (by decide) plain none_

theorem fne_palette_kinds : ¬ (("palette" : Str) = "kinds") := by decide +kernel
theorem fne_palette_teams : ¬ (("palette" : Str) = "teams") := by decide +kernel
theorem fne_palette_pots : ¬ (("palette" : Str) = "pots") := by decide +kernel
theorem fne_palette_slots : ¬ (("palette" : Str) = "slots") := by decide +kernel
theorem fne_palette_told : ¬ (("palette" : Str) = "told") := by decide +kernel
theorem fne_kinds_palette : ¬ (("kinds" : Str) = "palette") := by decide +kernel
theorem fne_kinds_teams : ¬ (("kinds" : Str) = "teams") := by decide +kernel
theorem fne_kinds_pots : ¬ (("kinds" : Str) = "pots") := by decide +kernel
theorem fne_kinds_slots : ¬ (("kinds" : Str) = "slots") := by decide +kernel
theorem fne_kinds_told : ¬ (("kinds" : Str) = "told") := by decide +kernel
theorem fne_teams_palette : ¬ (("teams" : Str) = "palette") := by decide +kernel
theorem fne_teams_kinds : ¬ (("teams" : Str) = "kinds") := by decide +kernel
theorem fne_teams_pots : ¬ (("teams" : Str) = "pots") := by decide +kernel
theorem fne_teams_slots : ¬ (("teams" : Str) = "slots") := by decide +kernel
theorem fne_teams_told : ¬ (("teams" : Str) = "told") := by decide +kernel
theorem fne_pots_palette : ¬ (("pots" : Str) = "palette") := by decide +kernel
theorem fne_pots_kinds : ¬ (("pots" : Str) = "kinds") := by decide +kernel
theorem fne_pots_teams : ¬ (("pots" : Str) = "teams") := by decide +kernel
theorem fne_pots_slots : ¬ (("pots" : Str) = "slots") := by decide +kernel
theorem fne_pots_told : ¬ (("pots" : Str) = "told") := by decide +kernel
theorem fne_slots_palette : ¬ (("slots" : Str) = "palette") := by decide +kernel
theorem fne_slots_kinds : ¬ (("slots" : Str) = "kinds") := by decide +kernel
theorem fne_slots_teams : ¬ (("slots" : Str) = "teams") := by decide +kernel
theorem fne_slots_pots : ¬ (("slots" : Str) = "pots") := by decide +kernel
theorem fne_slots_told : ¬ (("slots" : Str) = "told") := by decide +kernel
theorem fne_told_palette : ¬ (("told" : Str) = "palette") := by decide +kernel
theorem fne_told_kinds : ¬ (("told" : Str) = "kinds") := by decide +kernel
theorem fne_told_teams : ¬ (("told" : Str) = "teams") := by decide +kernel
theorem fne_told_pots : ¬ (("told" : Str) = "pots") := by decide +kernel
theorem fne_told_slots : ¬ (("told" : Str) = "slots") := by decide +kernel
def bkF (v1 v2 v3 v4 : V) (sl : Int) (tl : Addr) : List (Str × V) := [("palette", v1), ("kinds", v2), ("teams", v3), ("pots", v4), ("slots", .int sl), ("told", .ref tl)]
theorem bk_made (v1 v2 v3 v4 : V) (sl : Int) (tl : Addr) : putF "told" (.ref tl) (putF "slots" (.int sl) (putF "pots" v4 (putF "teams" v3 (putF "kinds" v2 (putF "palette" v1 []))))) = bkF v1 v2 v3 v4 sl tl := by
  simp only [putF, if_neg fne_palette_kinds, if_neg fne_palette_teams, if_neg fne_kinds_teams, if_neg fne_palette_pots, if_neg fne_kinds_pots, if_neg fne_teams_pots, if_neg fne_palette_slots, if_neg fne_kinds_slots, if_neg fne_teams_slots, if_neg fne_pots_slots, if_neg fne_palette_told, if_neg fne_kinds_told, if_neg fne_teams_told, if_neg fne_pots_told, if_neg fne_slots_told]
  rfl
theorem bk_told (v1 v2 v3 v4 : V) (sl : Int) (tl tl' : Addr) : putF "told" (.ref tl') (bkF v1 v2 v3 v4 sl tl) = bkF v1 v2 v3 v4 sl tl' := by
  simp only [bkF, putF, if_neg fne_palette_told, if_neg fne_kinds_told, if_neg fne_teams_told, if_neg fne_pots_told, if_neg fne_slots_told, if_true]
theorem bk_no {v1 v2 v3 v4 : V} {sl : Int} {tl : Addr} {m : Str} (h0 : (m == ("palette" : Str)) = false) (h1 : (m == ("kinds" : Str)) = false) (h2 : (m == ("teams" : Str)) = false) (h3 : (m == ("pots" : Str)) = false) (h4 : (m == ("slots" : Str)) = false) (h5 : (m == ("told" : Str)) = false) : (bkF v1 v2 v3 v4 sl tl).lookup m = none := by
  unfold bkF
  rw [List.lookup_cons, h0, List.lookup_cons, h1, List.lookup_cons, h2, List.lookup_cons, h3, List.lookup_cons, h4, List.lookup_cons, h5]
  rfl
theorem bf_palette (v1 v2 v3 v4 : V) (sl : Int) (tl : Addr) : (bkF v1 v2 v3 v4 sl tl).lookup ("palette" : Str) = some (v1) := by
  rfl
theorem bf_kinds (v1 v2 v3 v4 : V) (sl : Int) (tl : Addr) : (bkF v1 v2 v3 v4 sl tl).lookup ("kinds" : Str) = some (v2) := by
  have h0 : (("kinds" : Str) == ("palette" : Str)) = false := by decide +kernel
  unfold bkF
  rw [List.lookup_cons, h0]
  rfl
theorem bf_teams (v1 v2 v3 v4 : V) (sl : Int) (tl : Addr) : (bkF v1 v2 v3 v4 sl tl).lookup ("teams" : Str) = some (v3) := by
  have h0 : (("teams" : Str) == ("palette" : Str)) = false := by decide +kernel
  have h1 : (("teams" : Str) == ("kinds" : Str)) = false := by decide +kernel
  unfold bkF
  rw [List.lookup_cons, h0, List.lookup_cons, h1]
  rfl
theorem bf_pots (v1 v2 v3 v4 : V) (sl : Int) (tl : Addr) : (bkF v1 v2 v3 v4 sl tl).lookup ("pots" : Str) = some (v4) := by
  have h0 : (("pots" : Str) == ("palette" : Str)) = false := by decide +kernel
  have h1 : (("pots" : Str) == ("kinds" : Str)) = false := by decide +kernel
  have h2 : (("pots" : Str) == ("teams" : Str)) = false := by decide +kernel
  unfold bkF
  rw [List.lookup_cons, h0, List.lookup_cons, h1, List.lookup_cons, h2]
  rfl
theorem bf_slots (v1 v2 v3 v4 : V) (sl : Int) (tl : Addr) : (bkF v1 v2 v3 v4 sl tl).lookup ("slots" : Str) = some (.int sl) := by
  have h0 : (("slots" : Str) == ("palette" : Str)) = false := by decide +kernel
  have h1 : (("slots" : Str) == ("kinds" : Str)) = false := by decide +kernel
  have h2 : (("slots" : Str) == ("teams" : Str)) = false := by decide +kernel
  have h3 : (("slots" : Str) == ("pots" : Str)) = false := by decide +kernel
  unfold bkF
  rw [List.lookup_cons, h0, List.lookup_cons, h1, List.lookup_cons, h2, List.lookup_cons, h3]
  rfl
theorem bf_told (v1 v2 v3 v4 : V) (sl : Int) (tl : Addr) : (bkF v1 v2 v3 v4 sl tl).lookup ("told" : Str) = some (.ref tl) := by
  have h0 : (("told" : Str) == ("palette" : Str)) = false := by decide +kernel
  have h1 : (("told" : Str) == ("kinds" : Str)) = false := by decide +kernel
  have h2 : (("told" : Str) == ("teams" : Str)) = false := by decide +kernel
  have h3 : (("told" : Str) == ("pots" : Str)) = false := by decide +kernel
  have h4 : (("told" : Str) == ("slots" : Str)) = false := by decide +kernel
  unfold bkF
  rw [List.lookup_cons, h0, List.lookup_cons, h1, List.lookup_cons, h2, List.lookup_cons, h3, List.lookup_cons, h4]
  rfl
/-- what the class asks of the text -/
structure BkK (K : PySem.W.Frag) (mg : Str → Option Value) (C : Addr) : Prop where
  cl : Cls K C
  a0 : NoAttr K C "palette"
  a1 : NoAttr K C "kinds"
  a2 : NoAttr K C "teams"
  a3 : NoAttr K C "pots"
  a4 : NoAttr K C "slots"
  a5 : NoAttr K C "told"
  gl : mg "Book" = some (.ref C)
/-- a row of what was told: a number, and hour and deed, or that it's struck -/
abbrev Row := Int × Option (Int × Deed)
def rwD : Row → PyData
  | (n, none) => .tuple [.int n, .none, .none]
  | (n, some (h, d)) => .tuple [.int n, .int h, dD d]
theorem noL_rw (r : Row) : noLAll.noL (rwD r) := by
  obtain ⟨n, o⟩ := r
  cases o with
  | none => exact ⟨trivial, trivial, trivial, trivial⟩
  | some e => exact ⟨trivial, trivial, noL_dD e.2, trivial⟩
structure BkAt (K : PySem.W.Frag) (C : Addr) (H : Hp) (p : Addr) (v1 v2 v3 v4 : V) (sl : Int) (tl : Addr) (rs : List Row) : Prop where
  ob : ∃ dx, H p = some (.ins C dx (bkF v1 v2 v3 v4 sl tl))
  li : ∃ us, H tl = some (.lst us) ∧ DpAll K H us (rs.map rwD)
theorem BkAt.same {C : Addr} {H H' : Hp} {p : Addr} {v1 v2 v3 v4 : V} {sl : Int} {tl : Addr} {rs : List Row} (h : BkAt K C H p v1 v2 v3 v4 sl tl rs) (s : Same H H') : BkAt K C H' p v1 v2 v3 v4 sl tl rs := by
  obtain ⟨⟨dx, h1⟩, us, h2, h3⟩ := h
  exact ⟨⟨dx, s _ _ h1⟩, us, s _ _ h2, dpAll_same s h3⟩
theorem BkAt.sm {C : Addr} {H H' : Hp} {S : List Addr} {p : Addr} {v1 v2 v3 v4 : V} {sl : Int} {tl : Addr} {rs : List Row} (h : BkAt K C H p v1 v2 v3 v4 sl tl rs) (s : Sm S H H') (n1 : p ∉ S) (n2 : tl ∉ S) (nt : NT S H) : BkAt K C H' p v1 v2 v3 v4 sl tl rs := by
  obtain ⟨⟨dx, h1⟩, us, h2, h3⟩ := h
  exact ⟨⟨dx, sm_at s n1 h1⟩, us, sm_at s n2 h2, dpAll_nt h3 (noL_map (f := rwD) noL_rw rs) s nt⟩
/-- what was told of each number last, in the order of first telling -/
def putR (l : List Row) (r : Row) : List Row := if l.any (fun x => decide (x.1 = r.1)) = true then l.map (fun x => if x.1 = r.1 then r else x) else l ++ [r]
def lastF (rs : List Row) : List Row := rs.foldl putR []
def entF (l : List Row) : List (Int × Int × Deed) := l.filterMap fun r => r.2.map fun e => (e.1, r.1, e.2)
def entD (e : Int × Int × Deed) : PyData := .tuple [.int e.1, .int e.2.1, dD e.2.2]
/-- the entries that stand, as they are told -/
def entsL (l : List Row) : List PyData := ((entF l).map entD).mergeSort (PySem.W.dataLe false fun d => d)
def entsD (rs : List Row) : List PyData := entsL (lastF rs)
def nextN (rs : List Row) : Int := (rs.map fun r => r.1).foldl max (-1) + 1

/-! ### the dict of what was told last -/
def KvR (K : PySem.W.Frag) (g : Row → PyData) (H : Hp) (kv : List (Key × V)) (l : List Row) : Prop := kv.map Prod.fst = l.map (fun r => (Sum.inl r.1 : Key)) ∧ DpAll K H (kv.map Prod.snd) (l.map g)
section
variable {g : Row → PyData} {H H' : Hp} {kv : List (Key × V)} {l : List Row}
theorem KvR.len (h : KvR K g H kv l) : kv.length = l.length := by
  have := congrArg List.length h.1
  simpa using this
theorem KvR.same (h : KvR K g H kv l) (s : Same H H') : KvR K g H' kv l := ⟨h.1, dpAll_same s h.2⟩
theorem KvR.sm {S : List Addr} (h : KvR K g H kv l) (ng : ∀ r, noLAll.noL (g r)) (s : Sm S H H') (nt : NT S H) : KvR K g H' kv l := ⟨h.1, dpAll_nt h.2 (noL_map (f := g) ng l) s nt⟩
theorem kv_any (n : Int) : ∀ {kv : List (Key × V)} {l : List Row}, kv.map Prod.fst = l.map (fun r => (Sum.inl r.1 : Key)) → (kv.any fun kv => decide (kv.1 = Sum.inl n)) = l.any fun x => decide (x.1 = n)
  | [], [], _ => rfl
  | [], _ :: _, e => by cases e
  | _ :: _, [], e => by cases e
  | a :: r, b :: m, e => by
    obtain ⟨e1, e2⟩ := List.cons.inj e
    have e1 : a.1 = Sum.inl b.1 := e1
    rw [List.any_cons, List.any_cons, kv_any n e2, e1]
    have : decide ((Sum.inl b.1 : Key) = Sum.inl n) = decide (b.1 = n) := by
      by_cases c : b.1 = n
      · rw [c, decide_eq_true rfl, decide_eq_true rfl]
      · rw [decide_eq_false c, decide_eq_false fun z => c (Sum.inl.inj z)]
    rw [this]
theorem kv_map {v : V} {r0 : Row} (dv : Dp K H v (g r0)) : ∀ {kv : List (Key × V)} {l : List Row}, kv.map Prod.fst = l.map (fun r => (Sum.inl r.1 : Key)) → DpAll K H (kv.map Prod.snd) (l.map g) →
    DpAll K H ((kv.map fun e => if e.1 = Sum.inl r0.1 then (e.1, v) else e).map Prod.snd) ((l.map fun x => if x.1 = r0.1 then r0 else x).map g)
  | [], [], _, _ => .nil
  | [], _ :: _, e, _ => by cases e
  | _ :: _, [], e, _ => by cases e
  | a :: r, b :: m, e, d => by
    obtain ⟨e1, e2⟩ := List.cons.inj e
    have e1 : a.1 = Sum.inl b.1 := e1
    cases d with
    | cons h t =>
      refine .cons ?_ (kv_map dv e2 t)
      by_cases c : b.1 = r0.1
      · have c2 : a.1 = Sum.inl r0.1 := by rw [e1, c]
        simp only [c, c2, if_true]
        exact dv
      · have c2 : ¬ a.1 = Sum.inl r0.1 := fun z => c (Sum.inl.inj (e1.symm.trans z))
        simp only [c, c2, if_false]
        exact h
theorem KvR.put {v : V} {r : Row} (h : KvR K g H kv l) (dv : Dp K H v (g r)) : KvR K g H (putK kv (.inl r.1) v) (putR l r) := by
  obtain ⟨h1, h2⟩ := h
  unfold putK putR
  rw [kv_any r.1 h1]
  by_cases c : (l.any fun x => decide (x.1 = r.1)) = true
  · rw [if_pos c, if_pos c]
    refine ⟨?_, kv_map dv h1 h2⟩
    rw [List.map_map, List.map_map]
    have e1 : kv.map (Prod.fst ∘ fun e => if e.1 = Sum.inl r.1 then (e.1, v) else e) = kv.map Prod.fst := List.map_congr_left fun e _ => by
      simp only [Function.comp]
      split <;> rfl
    have e2 : l.map ((fun x : Row => (Sum.inl x.1 : Key)) ∘ fun x => if x.1 = r.1 then r else x) = l.map fun x => (Sum.inl x.1 : Key) := List.map_congr_left fun x _ => by
      simp only [Function.comp]
      split
      · next z => rw [z]
      · rfl
    rw [e1, e2, h1]
  · rw [if_neg c, if_neg c]
    refine ⟨by rw [List.map_append, List.map_append, h1]; rfl, ?_⟩
    rw [List.map_append, List.map_append]
    exact dpAll_app' h2 (.cons dv .nil)
theorem dpAll_at' : ∀ {us : List V} {l : List Row} {j : Nat} {v : V}, DpAll K H us (l.map g) → us[j]? = some v → ∃ r, l[j]? = some r ∧ Dp K H v (g r)
  | _, [], _, _, .nil, e => by rw [List.getElem?_nil] at e; cases e
  | _, b :: m, 0, _, .cons h _, e => ⟨b, rfl, by rw [← Option.some.inj (show some _ = some _ from e)]; exact h⟩
  | _, b :: m, j + 1, _, .cons _ t, e => dpAll_at' (l := m) (j := j) t e
theorem KvR.at_ {j : Nat} {kx : Key} {v : V} (h : KvR K g H kv l) (e : kv[j]? = some (kx, v)) : ∃ r, l[j]? = some r ∧ kx = .inl r.1 ∧ Dp K H v (g r) := by
  obtain ⟨r, e1, d⟩ := dpAll_at' h.2 (j := j) (v := v) (by rw [List.getElem?_map, e]; rfl)
  refine ⟨r, e1, ?_, d⟩
  have := congrArg (fun x : List Key => x[j]?) h.1
  rw [List.getElem?_map, List.getElem?_map, e, e1] at this
  exact Option.some.inj this
end
theorem putR_len (l : List Row) (r : Row) : (putR l r).length ≤ l.length + 1 := by
  unfold putR
  split
  · rw [List.length_map]; omega
  · rw [List.length_append]; exact Nat.le_refl _
theorem lastF_snoc (rs : List Row) (r : Row) : lastF (rs ++ [r]) = putR (lastF rs) r := by
  unfold lastF
  rw [List.foldl_append]
  rfl
theorem lastF_take {rs : List Row} {i : Nat} {r : Row} (e : rs[i]? = some r) : lastF (rs.take (i + 1)) = putR (lastF (rs.take i)) r := by
  rw [List.take_add_one, e]
  exact lastF_snoc _ _
theorem lastF_len (rs : List Row) : ∀ i, (lastF (rs.take i)).length ≤ i
  | 0 => Nat.le_refl _
  | i + 1 => by
    cases e : rs[i]? with
    | none =>
      rw [List.take_add_one, e]
      have := lastF_len rs i
      simp only [Option.toList_none, List.append_nil]
      omega
    | some r =>
      rw [lastF_take e]
      exact Nat.le_trans (putR_len _ _) (Nat.succ_le_succ (lastF_len rs i))
theorem lastF_le (rs : List Row) : (lastF rs).length ≤ rs.length := by
  have := lastF_len rs rs.length
  rwa [List.take_length] at this
/-- no number twice -/
theorem putR_nodup {l : List Row} {r : Row} (h : (l.map fun r => r.1).Nodup) : ((putR l r).map fun r => r.1).Nodup := by
  unfold putR
  by_cases c : (l.any fun x => decide (x.1 = r.1)) = true
  · rw [if_pos c, List.map_map]
    have e2 : l.map ((fun x : Row => x.1) ∘ fun x => if x.1 = r.1 then r else x) = l.map fun x => x.1 := List.map_congr_left fun x _ => by
      simp only [Function.comp]
      split
      · next z => rw [z]
      · rfl
    rw [e2]; exact h
  · rw [if_neg c, List.map_append]
    refine List.nodup_append.mpr ⟨h, by simp, fun a ha b hb e => c ?_⟩
    obtain ⟨x, hx, rfl⟩ := List.mem_map.mp ha
    have : b = r.1 := by simpa using hb
    exact List.any_eq_true.mpr ⟨x, hx, decide_eq_true (e.trans this)⟩
theorem lastF_nodup (rs : List Row) : ((lastF rs).map fun r => r.1).Nodup := by
  have go : ∀ (rs l : List Row), (l.map fun r => r.1).Nodup → ((rs.foldl putR l).map fun r => r.1).Nodup := fun rs => by
    induction rs with
    | nil => exact fun _ h => h
    | cons r m ih => exact fun l h => ih _ (putR_nodup h)
  exact go rs [] List.nodup_nil
theorem entF_mem {l : List Row} {e : Int × Int × Deed} (h : e ∈ entF l) : (e.2.1, some (e.1, e.2.2)) ∈ l := by
  obtain ⟨r, hr, q⟩ := List.mem_filterMap.mp h
  obtain ⟨n, o⟩ := r
  cases o with
  | none => cases q
  | some x =>
    cases Option.some.inj q
    exact hr
theorem entF_one {l : List Row} (nd : (l.map fun r => r.1).Nodup) {e e2 : Int × Int × Deed} (h : e ∈ entF l) (h2 : e2 ∈ entF l) (q : e.2.1 = e2.2.1) : e = e2 := by
  have m1 := entF_mem h
  have m2 := entF_mem h2
  rw [← q] at m2
  have go : ∀ {l : List Row} {n : Int} {a b : Option (Int × Deed)}, (l.map fun r => r.1).Nodup → (n, a) ∈ l → (n, b) ∈ l → a = b := by
    intro l
    induction l with
    | nil => exact fun _ h => (List.not_mem_nil h).elim
    | cons x m ih =>
      intro n a b nd h1 h2
      obtain ⟨n1, n2⟩ := List.nodup_cons.mp nd
      rcases List.mem_cons.mp h1 with h1 | h1 <;> rcases List.mem_cons.mp h2 with h2 | h2
      · rw [← h2] at h1
        exact (Prod.mk.inj h1).2
      · rw [← h1] at n1
        exact (n1 (List.mem_map.mpr ⟨_, h2, rfl⟩)).elim
      · rw [← h2] at n1
        exact (n1 (List.mem_map.mpr ⟨_, h1, rfl⟩)).elim
      · exact ih n2 h1 h2
  have := go nd m1 m2
  obtain ⟨a, b, c⟩ := e
  obtain ⟨a2, b2, c2⟩ := e2
  cases Option.some.inj this
  cases q
  rfl
theorem al_dD (d : Deed) : PySem.W.alike (dD d) (dD d) = true := by cases d <;> simp [dD, PySem.W.alike, PySem.W.alikeAll]
theorem dD_depth (d : Deed) : (dD d).depth ≤ 10 := by cases d <;> (simp only [dD, PyData.depth, PyData.depthAll]; decide)
theorem rows_ent {l : List Row} (nd : (l.map fun r => r.1).Nodup) : RowsCmp ((entF l).map entD) := by
  refine ⟨fun d hd => ?_, fun x r x2 r2 h1 h2 => ?_, fun xs ys h1 h2 => ?_⟩
  · obtain ⟨c, _, rfl⟩ := List.mem_map.mp hd
    exact ⟨_, _, rfl⟩
  · obtain ⟨c, _, e⟩ := List.mem_map.mp h1
    obtain ⟨c2, _, e2⟩ := List.mem_map.mp h2
    obtain ⟨rfl, _⟩ := List.cons.inj (PyData.tuple.inj e)
    obtain ⟨rfl, _⟩ := List.cons.inj (PyData.tuple.inj e2)
    rfl
  · obtain ⟨c, m1, e⟩ := List.mem_map.mp h1
    obtain ⟨c2, m2, e2⟩ := List.mem_map.mp h2
    cases PyData.tuple.inj e
    cases PyData.tuple.inj e2
    by_cases q : c.2.1 = c2.2.1
    · cases entF_one nd m1 m2 q
      simp [okCmp, PySem.W.alike, al_dD]
    · simp [okCmp, PySem.W.alike, PyData.eqv, q]
theorem ent_depth (e : Int × Int × Deed) : (entD e).depth ≤ 60 := by
  have := dD_depth e.2.2
  simp only [entD, PyData.depth, PyData.depthAll]
  omega

/-! ### a method with values that may be left out -/
abbrev FunVQ (K : PySem.W.Frag) (x qual : Str) (st : Stmt) (dvs : List V) (f : Addr) (fd : FuncData) : Prop := FunD K x qual (defArgs st) (defBody st) (defScope st) dvs [] f fd
theorem okQ {x qual : Str} {st : Stmt} {dvs : List V} {f : Addr} {fd : FuncData} {N ps : List Str} {k : Nat} {sp : Sp} (F : FunVQ K x qual st dvs f fd) (S : FnScope N ps (defScope st)) (len : ∀ vs H Q E, sp vs H Q E → vs.length = ps.length)
    (bd : ∀ (cdv : Value) (A : Around) (outer : List Env) (s : Shared) (H : Hp) (vs : List V) (Q : VK) (E : XK), Room k (A.deeper (envOfC qual (defScope st) s.heap.objs.size f cdv)) → sp vs H Q E → ∃ t, PSs (cxOf CX0 P w K mg base N qual (defScope st) f cdv A outer s H E).nox (defBody st) t ∧ t { nx := fun _ H' => Q .non H', rt := Q } (start N vs) H) : FnOk P w K mg base CX0 (k + 1) f fd ps sp :=
  FunD.ok F S len fun cdv A outer s H vs Q E hr h => by
    obtain ⟨t, ht, hq⟩ := bd cdv A outer s H vs Q E hr h
    exact ⟨t, ht.nox, hq⟩
def spBI (K : PySem.W.Frag) (C : Addr) : Sp := fun vs H Q _ => ∃ (H0 : Hp) (p dx : Addr) (v1 v2 v3 v4 : V) (sl : Int), vs = [.ref p, v1, v2, v3, v4, .int sl] ∧ Same H0 H ∧ H0 p = none ∧ H p = some (.ins C dx []) ∧ ∀ (H' : Hp) (tl : Addr), Same H0 H' → H0 tl = none → tl ≠ p → BkAt K C H' p v1 v2 v3 v4 sl tl [] → Q .non H'
abbrev s_bki : Stmt := inClass (topS 3) 0
def n_bki : List Str := ["self", "palette", "kinds", "teams", "pots", "slots"]
theorem sc_bki : FnScope n_bki ["self", "palette", "kinds", "teams", "pots", "slots"] (defScope s_bki) := ⟨rfl, rfl, rfl, by decide +kernel, rfl, by decide +kernel, by decide +kernel⟩
theorem ok_bki {C f : Addr} {fd : FuncData} {k : Nat} (F : FunVQ K "__init__" "Book.__init__" s_bki [.int 12] f fd) (T : Txt mg) (N : BkK K mg C) : FnOk P w K mg base CX0 (k + 1) f fd ["self", "palette", "kinds", "teams", "pots", "slots"] (spBI K C) := by
  refine okQ F sc_bki (fun vs H Q E h => ?_) (fun cdv A outer s H vs Q E hr h => ?_)
  · obtain ⟨H0, p, dx, v1, v2, v3, v4, sl, rfl, _⟩ := h
    rfl
  · obtain ⟨H0, p, dx, v1, v2, v3, v4, sl, rfl, s0, p0, hp, q⟩ := h
    have nd := sc_bki.nd
    refine ⟨_, (pss_cons (ps_fld (pv 0) (pv 1) rfl)
      (pss_cons (ps_fld (pv 0) (pv 2) rfl)
      (pss_cons (ps_fld (pv 0) (pv 3) rfl)
      (pss_cons (ps_fld (pv 0) (pv 4) rfl)
      (pss_cons (ps_fld (pv 0) (pv 5) rfl)
      (pss_one (ps_fld (pv 0) (pe_lst pa_nil) rfl))))))), ?_⟩
    have l0 : ([] : List (Str × V)).length < 1000 := by decide
    have ln : ∀ {f : Str} {v : V} {fs : List (Str × V)} {n : Nat}, n < 990 → fs.length ≤ n → (putF f v fs).length ≤ n + 1 := fun {f v fs n} _ h => Nat.le_trans (length_putF f v fs) (Nat.succ_le_succ h)
    have l1 := ln (f := "palette") (v := v1) (fs := []) (n := 0) (by decide) (Nat.le_refl _)
    have l2 := ln (f := "kinds") (v := v2) (by decide) l1
    have l3 := ln (f := "teams") (v := v3) (by decide) l2
    have l4 := ln (f := "pots") (v := v4) (by decide) l3
    have l5 := ln (f := "slots") (v := .int sl) (by decide) l4
    refine ⟨_, rfl, _, rfl, p, C, dx, _, rfl, hp, N.cl, N.a0, l0, ?_⟩
    refine ⟨_, rfl, _, rfl, p, C, dx, _, rfl, upd_same, N.cl, N.a1, Nat.lt_of_le_of_lt l1 (by decide), ?_⟩
    refine ⟨_, rfl, _, rfl, p, C, dx, _, rfl, upd_same, N.cl, N.a2, Nat.lt_of_le_of_lt l2 (by decide), ?_⟩
    refine ⟨_, rfl, _, rfl, p, C, dx, _, rfl, upd_same, N.cl, N.a3, Nat.lt_of_le_of_lt l3 (by decide), ?_⟩
    refine ⟨_, rfl, _, rfl, p, C, dx, _, rfl, upd_same, N.cl, N.a4, Nat.lt_of_le_of_lt l4 (by decide), ?_⟩
    simp only [upd_upd]
    refine ⟨Nat.zero_le _, fun tl ntl => ?_⟩
    have tp : tl ≠ p := fun e => by rw [e, upd_same] at ntl; cases ntl
    have ntl0 : H tl = none := by rwa [upd_ne tp] at ntl
    refine ⟨_, rfl, p, C, dx, _, rfl, (upd_ne tp.symm).trans upd_same, N.cl, N.a5, Nat.lt_of_le_of_lt l5 (by decide), ?_⟩
    rw [bk_made]
    refine q _ tl (fun b o e => ?_) (s0.free ntl0) tp ⟨⟨dx, upd_same⟩, [], (upd_ne tp).trans upd_same, .nil⟩
    have bp : b ≠ p := fun z => by rw [z, p0] at e; cases e
    have bt : b ≠ tl := fun z => by rw [z, s0.free ntl0] at e; cases e
    rw [upd_ne bp, upd_ne bt, upd_ne bp]
    exact s0 _ _ e
theorem dict_nt {H : Hp} {a : Addr} {kv : List (Key × V)} (h : H a = some (.dK kv)) : NT [a] H := fun x hx ob e => by
  rw [List.mem_singleton.mp hx, h] at e
  cases e
  exact ⟨fun _ z => (by cases z), fun _ _ z => (by cases z)⟩
theorem frz_nt {H : Hp} {a : Addr} {od : Obj} {kv : List (Key × V)} (h : H a = some (.frz od (.dK kv))) : NT [a] H := fun x hx ob e => by
  rw [List.mem_singleton.mp hx, h] at e
  cases e
  exact ⟨fun _ z => (by cases z), fun _ _ z => (by cases z)⟩
theorem entF_take {l : List Row} {i : Nat} {r : Row} (e : l[i]? = some r) : entF (l.take (i + 1)) = entF (l.take i) ++ (r.2.map fun e => (e.1, r.1, e.2)).toList := by
  unfold entF
  rw [List.take_add_one, e, List.filterMap_append]
  obtain ⟨n, o⟩ := r
  cases o <;> rfl
theorem noL_en (e : Int × Int × Deed) : noLAll.noL (entD e) := ⟨trivial, trivial, noL_dD e.2.2, trivial⟩
def prD : Row → PyData
  | (_, none) => .tuple [.none, .none]
  | (_, some (h, d)) => .tuple [.int h, dD d]
theorem noL_pr (r : Row) : noLAll.noL (prD r) := by
  obtain ⟨n, o⟩ := r
  cases o with
  | none => exact ⟨trivial, trivial, trivial⟩
  | some e => exact ⟨trivial, noL_dD e.2, trivial⟩
def partX : Row → PyData
  | (_, none) => .none
  | (_, some (h, _)) => .int h
def partY : Row → PyData
  | (_, none) => .none
  | (_, some (_, d)) => dD d
theorem rwD_parts (r : Row) : rwD r = .tuple [.int r.1, partX r, partY r] := by
  obtain ⟨n, o⟩ := r
  cases o <;> rfl
theorem prD_parts (r : Row) : prD r = .tuple [partX r, partY r] := by
  obtain ⟨n, o⟩ := r
  cases o <;> rfl
/-- a row's parts -/
theorem rw_parts {H : Hp} {v : V} {r : Row} (d : Dp K H v (rwD r)) : ∃ (a : Addr) (x y : V), v = .ref a ∧ SqT K H a [.int r.1, x, y] ∧ Dp K H x (partX r) ∧ Dp K H y (partY r) := by
  rw [rwD_parts] at d
  obtain ⟨a, xs, rfl, ha, d⟩ := dp_tup d
  cases d with
  | cons h t =>
    cases h
    cases t with
    | cons h2 t2 =>
      cases t2 with
      | cons h3 t3 =>
        cases t3
        exact ⟨a, _, _, rfl, ha, h2, h3⟩
theorem pr_parts {H : Hp} {v : V} {r : Row} (d : Dp K H v (prD r)) : ∃ (a : Addr) (x y : V), v = .ref a ∧ SqT K H a [x, y] ∧ Dp K H x (partX r) ∧ Dp K H y (partY r) := by
  rw [prD_parts] at d
  obtain ⟨a, xs, rfl, ha, d⟩ := dp_tup d
  cases d with
  | cons h2 t2 =>
    cases t2 with
    | cons h3 t3 =>
      cases t3
      exact ⟨a, _, _, rfl, ha, h2, h3⟩
theorem dp_dD {H : Hp} {v : V} {d : Deed} (h : Dp K H v (dD d)) : ∃ a, v = .ref a := by
  have : ∃ xs, dD d = .tuple xs := by cases d <;> exact ⟨_, rfl⟩
  obtain ⟨xs, e⟩ := this
  rw [e] at h
  obtain ⟨a, _, e, _⟩ := dp_tup h
  exact ⟨a, e⟩
theorem partY_none {H : Hp} {v : V} {r : Row} (h : Dp K H v (partY r)) : (!decide (v = V.non)) = r.2.isSome := by
  obtain ⟨n, o⟩ := r
  cases o with
  | none =>
    cases h
    rfl
  | some e =>
    obtain ⟨a, rfl⟩ := dp_dD (d := e.2) h
    rfl
def spBN (K : PySem.W.Frag) (C : Addr) : Sp := fun vs H Q _ => ∃ (p tl : Addr) (v1 v2 v3 v4 : V) (sl : Int) (rs : List Row), vs = [.ref p] ∧ BkAt K C H p v1 v2 v3 v4 sl tl rs ∧ rs.length ≤ 1000 ∧ ∀ (H' : Hp) (R : Addr) (us : List V), Same H H' → H R = none → H' R = some (.lst us) → DpAll K H' us (entsD rs) → Q (.ref R) H'
abbrev s_bkn : Stmt := inClass (topS 3) 6
def n_bkn : List Str := ["self", "last", "number", "hour", "deed"]
theorem sc_bkn : FnScope n_bkn ["self"] (defScope s_bkn) := ⟨rfl, rfl, rfl, by decide +kernel, rfl, by decide +kernel, by decide +kernel⟩
theorem ok_bkn {C f : Addr} {fd : FuncData} {k : Nat} (F : Fun K "entries" "Book.entries" s_bkn f fd) (T : Txt mg) (N : BkK K mg C) : FnOk P w K mg base CX0 (k + 1) f fd ["self"] (spBN K C) := by
  refine F.ok sc_bkn (fun vs H Q E h => ?_) (fun cdv A outer s H vs Q E hr h => ?_)
  · obtain ⟨p, tl, v1, v2, v3, v4, sl, rs, rfl, _⟩ := h
    rfl
  · obtain ⟨p, tl, v1, v2, v3, v4, sl, rs, rfl, M, l, q⟩ := h
    have nd := sc_bkn.nd
    have hu := hu_of hr
    have hu70 : (A.deeper (envOfC (Str.ofString "Book.entries") (defScope s_bkn) s.heap.objs.size f cdv)).units + 70 < cLine := by have := hr.un; omega
    /- 0 self, 1 last, 2 number, 3 hour, 4 deed -/
    refine ⟨_, (pss_cons (ps_setDc (ix := 1) rfl (mine := [("number", 2), ("hour", 3), ("deed", 4)]) nd rfl rfl (sw_dict rfl rfl rfl (by decide +kernel)) (ki_list (K := K) (ke_fld (K := K) (pv 0))) (blkOk_by (N := n_bkn) (sc := defScope s_bkn) (by decide +kernel)) (fun _ _ _ _ _ => (kg_tup (K := K) (n := 3) (pgs_cons (pg_name (i := 2) nd rfl (.inl rfl)) (pgs_cons (pg_name (i := 3) nd rfl (.inl rfl)) (pgs_cons (pg_name (i := 4) nd rfl (.inl rfl)) pgs_nil))))) (fun _ _ _ _ _ => pts_nil) (fun _ _ _ _ _ => (pv 2)) (fun _ _ _ _ _ => (pe_tup (pa_cons (pv 3) (pa_cons (pv 4) pa_nil)))))
      (pss_one (ps_ret (pe_callB (kc_sortedM (K := K) hu70) (by rfl) T.sorted (by decide +kernel) (pa_cons (pe_lock (pe_lc (own := [("number", 2), ("hour", 3), ("deed", 4)]) rfl nd (pi_items (pv 1)) (blkOk_by (N := n_bkn) (sc := defScope s_bkn) (by decide +kernel)) (fun _ _ _ _ _ => (kg_tup (K := K) (n := 2) (pgs_cons (pg_name (i := 2) nd rfl (.inl rfl)) (pgs_cons (kg_tup (K := K) (n := 2) (pgs_cons (pg_name (i := 3) nd rfl (.inl rfl)) (pgs_cons (pg_name (i := 4) nd rfl (.inl rfl)) pgs_nil))) pgs_nil)))) (fun _ _ _ _ _ => (pts_one (pt_cmpR op_notN (pv 4) pe_non (nomark _)))) (fun _ _ _ _ _ => (pe_tup (pa_cons (pv 3) (pa_cons (pv 2) (pa_cons (pv 4) pa_nil))))))) pa_nil))))), ?_⟩
    obtain ⟨⟨dx, hp⟩, xs, hT, dT⟩ := M
    have lx : xs.length = rs.length := dpAll_map_len dT
    refine ⟨_, rfl, p, C, dx, _, _, rfl, hp, N.cl, N.a5, bf_told _ _ _ _ _ _, tl, rfl, ⟨_, SqL.of hT⟩, fun D nD => ?_⟩
    refine dc_it (walk_list (xs := xs)) (fun i Hx => ∃ kv, Same H Hx ∧ Hx D = some (.dK kv) ∧ KvR K prD Hx kv (lastF (rs.take i))) ⟨[], same_upd nD, upd_same, rfl, .nil⟩ (fun i Hx _ h => SqL.of (h.choose_spec.1 _ _ hT)) ?_ ?_
    · rintro i y Ha Hb hi ⟨kv, sx, hD, kr⟩ ⟨rfl, gy⟩
      obtain ⟨r, gr, dr⟩ := dpAll_at' dT gy
      obtain ⟨u, vx, vy, rfl, hu1, dvx, dvy⟩ := rw_parts (dp_same sx dr)
      refine ⟨u, _, rfl, hu1, rfl, _, _, rfl, _, _, rfl, _, _, rfl, rfl, rfl, tYes_at ?_⟩
      rw [if_pos rfl]
      refine ⟨_, rfl, _, rfl, _, rfl, (by show 2 ≤ sizeLine; decide), fun t nt => ?_⟩
      have st := same_upd (o := .tup [vx, vy]) nt
      have hD := st _ _ hD
      have kr := kr.same st
      have sx := sx.trans st
      have dv : Dp K (upd Hb t (.tup [vx, vy])) (.ref t) (prD r) := by
        rw [prD_parts]
        exact .tup (.inl (.inl upd_same)) (.cons (dp_same st dvx) (.cons (dp_same st dvy) .nil))
      generalize upd Hb t (.tup [vx, vy]) = Hc at hD kr sx dv ⊢
      refine ⟨kv, .inl r.1, rfl, hD, by rw [kr.len, sizeLine_eq]; have := lastF_len rs i; omega, putK kv (.inl r.1) (.ref t), same_put sx nD, upd_same, ?_⟩
      rw [lastF_take gr]
      exact (kr.put dv).sm noL_pr (sm_wr (S := [D]) (by simp)) (dict_nt hD)
    · rintro He ⟨kv, se, hD, kr⟩
      rw [lx, List.take_length] at kr
      refine ⟨D, _, hD, trivial, fun od => ?_⟩
      have lk := kr.len
      have ll := lastF_le rs
      have krF : KvR K prD (upd He D (.frz od (.dK kv))) kv (lastF rs) := kr.sm noL_pr (sm_wr (S := [D]) (by simp)) (dict_nt hD)
      have hDF : upd He D (.frz od (.dK kv)) D = some (.frz od (.dK kv)) := upd_same
      have bk : ∀ {Hx : Hp}, Same (upd He D (.frz od (.dK kv))) Hx → Same He (upd Hx D (.dK kv)) := fun {Hx} s b o e => by
        by_cases c : b = D
        · rw [c, upd_same]; rw [c, hD] at e; exact e
        · rw [upd_ne c]; exact s _ _ (by rw [upd_ne c]; exact e)
      have nH : ∀ {R : Addr}, upd He D (.frz od (.dK kv)) R = none → R ≠ D ∧ He R = none := fun {R} n => by
        have h1 : R ≠ D := fun z => by rw [z, upd_same] at n; cases n
        rw [upd_ne h1] at n
        exact ⟨h1, n⟩
      generalize upd He D (.frz od (.dK kv)) = HF at krF hDF bk nH ⊢
      refine ⟨_, rfl, D, od, _, rfl, hDF, fun R nR => ?_⟩
      obtain ⟨RD, nRe⟩ := nH nR
      refine lc_it (walk_items (kvs := kv)) (fun j Hx => Same HF Hx ∧ ∃ us, Hx R = some (.lst us) ∧ us.length ≤ j ∧ DpAll K Hx us ((entF ((lastF rs).take j)).map entD)) ⟨same_upd nR, [], upd_same, Nat.le_refl _, .nil⟩ (fun j Hx _ h => h.1 _ _ hDF) ?_ ?_
      · rintro j y Ha Hb hj ⟨sx, us, hR, lu, du⟩ ⟨u, x1, x2, rfl, nu, rfl, g1, g2⟩
        obtain ⟨kx, vv, gl⟩ : ∃ kx vv, kv[j]? = some (kx, vv) := ⟨_, _, List.getElem?_eq_getElem hj⟩
        obtain ⟨r, gr, rfl, dv⟩ := krF.at_ gl
        have g1 : (kv[j]?).map (fun kv => kV kv.1) = some x1 := g1
        have g2 : (kv[j]?).map Prod.snd = some x2 := g2
        rw [gl] at g1 g2
        obtain rfl : kV (Sum.inl r.1) = x1 := Option.some.inj g1
        obtain rfl : vv = x2 := Option.some.inj g2
        obtain ⟨t, vx, vy, rfl, ht, dvx, dvy⟩ := pr_parts (dp_same sx dv)
        have su := same_upd (o := .tup [kV (Sum.inl r.1), V.ref t]) nu
        have hu1 : upd Ha u (.tup [kV (Sum.inl r.1), V.ref t]) u = some (.tup [kV (Sum.inl r.1), V.ref t]) := upd_same
        have hR := su _ _ hR
        have sx := sx.trans su
        have du := dpAll_same su du
        have ht : SqT K (upd Ha u (.tup [kV (Sum.inl r.1), V.ref t])) t [vx, vy] := ht.elim (fun h => .inl (h.elim (fun h => .inl (su _ _ h)) fun ⟨o, h⟩ => .inr ⟨o, su _ _ h⟩)) .inr
        have dvx := dp_same su dvx
        have dvy := dp_same su dvy
        generalize upd Ha u (.tup [kV (Sum.inl r.1), V.ref t]) = Hb at du hu1 sx hR ht dvx dvy ⊢
        refine ⟨u, _, rfl, .inl (.inl hu1), rfl, _, _, rfl, _, _, rfl, t, _, rfl, ht, rfl, _, _, rfl, _, _, rfl, rfl, rfl, rfl, ?_⟩
        refine ⟨_, rfl, rfl, _, rfl, ?_⟩
        rw [partY_none dvy]
        have et := entF_take gr
        cases eo : r.2 with
        | none =>
          rw [eo] at et
          show (if (Option.isSome (none : Option (Int × Deed))) = true then _ else _)
          rw [if_neg (by decide)]
          refine ⟨sx, us, hR, by omega, ?_⟩
          rw [et]
          simpa using du
        | some e =>
          rw [eo] at et
          show (if (Option.isSome (some e)) = true then _ else _)
          rw [if_pos (show Option.isSome (some e) = true from rfl)]
          obtain ⟨n, o⟩ := r
          cases eo
          cases dvx
          refine ⟨_, rfl, _, rfl, _, rfl, (by show 3 ≤ sizeLine; decide), fun q nq => ?_⟩
          have sq := same_upd (o := .tup [V.int e.1, kV (Sum.inl (n, some e).fst), vy]) nq
          have hR := sq _ _ hR
          have sx := sx.trans sq
          have du := dpAll_same sq du
          have dq : Dp K (upd Hb q (.tup [V.int e.1, kV (Sum.inl (n, some e).fst), vy])) (.ref q) (entD (e.1, n, e.2)) := .tup (.inl (.inl upd_same)) (.cons (.int _) (.cons (.int _) (.cons (dp_same sq dvy) .nil)))
          generalize upd Hb q (.tup [V.int e.1, kV (Sum.inl (n, some e).fst), vy]) = Hc at dq sx hR du ⊢
          refine ⟨us, hR, by rw [sizeLine_eq]; omega, same_put sx nR, us ++ [.ref q], upd_same, by rw [List.length_append]; show _ + 1 ≤ _; omega, ?_⟩
          rw [et, List.map_append]
          exact dpAll_nt (dpAll_app' du (.cons dq .nil)) (by rw [← List.map_append]; exact noL_map (f := entD) noL_en _) (sm_wr (S := [R]) (p := R) (by simp)) (lst_nt hR)
      · rintro H2 ⟨s2, us, hR, lu, du⟩
        rw [lk, List.take_length] at du
        have hD2 := s2 _ _ hDF
        refine ⟨hD2, ?_⟩
        have s3 := bk s2
        have du := dpAll_nt du (noL_map (f := entD) noL_en _) (sm_wr (S := [D]) (p := D) (o := .dK kv) (by simp)) (frz_nt hD2)
        have hR : upd H2 D (.dK kv) R = some (.lst us) := (upd_ne RD).trans hR
        generalize upd H2 D (.dK kv) = H3 at s3 hR du ⊢
        refine ⟨R, us, _, rfl, SqL.of hR, du, rows_ent (lastF_nodup rs), fun d hd => ?_, fun zs p2 dz np2 => ?_⟩
        · obtain ⟨e, _, rfl⟩ := List.mem_map.mp hd
          exact ent_depth e
        · exact q _ p2 zs ((se.trans s3).trans (same_upd np2)) ((se.trans s3).free np2) upd_same (dpAll_same (same_upd np2) dz)

end
end Pot

namespace Pot
open PySem PySem.Spec PyProof.Rows L2
section
variable {P : Program} {w : World} {K : PySem.W.Frag} {mg : Str → Option Value} {base : Heap}
theorem bk_add {C : Addr} {H H1 : Hp} {p : Addr} {v1 v2 v3 v4 : V} {sl : Int} {tl t : Addr} {rs : List Row} {us : List V} {r : Row} (M : BkAt K C H p v1 v2 v3 v4 sl tl rs) (hT : H tl = some (.lst us)) (s : Same H H1) (dr : Dp K H1 (.ref t) (rwD r)) :
    Sm [tl] H (upd H1 tl (.lst (us ++ [.ref t]))) ∧ BkAt K C (upd H1 tl (.lst (us ++ [.ref t]))) p v1 v2 v3 v4 sl tl (rs ++ [r]) := by
  obtain ⟨⟨dx, hp⟩, us2, hT2, dT⟩ := M
  have e : us2 = us := by rw [hT] at hT2; cases hT2; rfl
  rw [e] at dT
  have pt : p ≠ tl := fun z => by rw [z, hT] at hp; cases hp
  have sw := sm_wr (H := H1) (S := [tl]) (p := tl) (o := .lst (us ++ [.ref t])) (by simp)
  refine ⟨(sm_of s).trans sw, ⟨dx, (upd_ne pt).trans (s _ _ hp)⟩, _, upd_same, ?_⟩
  rw [List.map_append]
  have d := dpAll_app' (dpAll_same s dT) (.cons dr .nil : DpAll K H1 [.ref t] ([r].map rwD))
  exact dpAll_nt d (by rw [← List.map_append]; exact noL_map (f := rwD) noL_rw _) sw (lst_nt (s _ _ hT))
theorem inV_ints (k : Int) (ns : List Int) : inV (.int k) (ns.map V.int) = decide (k ∈ ns) := by
  induction ns with
  | nil => rfl
  | cons n r ih =>
    have e : inV (.int k) ((n :: r).map V.int) = (eqV (.int n) (.int k) || inV (.int k) (r.map V.int)) := rfl
    have e2 : eqV (.int n) (.int k) = decide (k = n) := by
      show decide (n = k) = _
      by_cases c : k = n
      · rw [c]
      · rw [decide_eq_false c, decide_eq_false (Ne.symm c)]
    rw [e, ih, e2]
    by_cases c : k = n <;> simp [c]
/-- the entries that stand, in their order -/
def entS (l : List Row) : List (Int × Int × Deed) := (entF l).mergeSort fun a b => PySem.W.dataLe false (fun d => d) (entD a) (entD b)
theorem entsL_eq (l : List Row) : entsL l = (entS l).map entD := (List.map_mergeSort (r := fun a b => PySem.W.dataLe false (fun d => d) (entD a) (entD b)) (s := PySem.W.dataLe false fun d => d) (f := entD) fun _ _ _ _ => rfl).symm
theorem mem_entS {l : List Row} {e : Int × Int × Deed} : e ∈ entS l ↔ e ∈ entF l := (List.mergeSort_perm _ _).mem_iff
theorem entS_len (l : List Row) : (entS l).length = (entF l).length := (List.mergeSort_perm _ _).length_eq
theorem entF_len (l : List Row) : (entF l).length ≤ l.length := List.length_filterMap_le _ _
/-- the number that comes next -/
def Next (rs : List Row) (n : Int) : Prop := (∀ r ∈ rs, r.1 < n) ∧ (n = 0 ∨ ∃ r ∈ rs, r.1 = n - 1)
theorem max_next {H : Hp} {D : Addr} {rs : List Row} {Q : VK} (hD : SqL K H D ((rs.map fun r => r.1).map V.int)) (nn : ∀ r ∈ rs, 0 ≤ r.1) (q : ∀ m : Int, Next rs (m + 1) → Q (.int m) H) : rMaxO K [.ref D] [.int (-1)] H Q := by
  refine ⟨D, _, -1, rfl, rfl, hD, fun e0 => q _ ⟨fun r hr => ?_, .inl rfl⟩, fun y my gy => q _ ⟨fun r hr => ?_, .inr ?_⟩⟩
  · rw [List.eq_nil_of_map_eq_nil e0] at hr
    exact (List.not_mem_nil hr).elim
  · exact Int.lt_add_one_of_le (gy _ (List.mem_map.mpr ⟨r, hr, rfl⟩))
  · obtain ⟨r, hr, rfl⟩ := List.mem_map.mp my
    exact ⟨r, hr, by omega⟩
def spBE (K : PySem.W.Frag) (C : Addr) : Sp := fun vs H Q _ => ∃ (p tl : Addr) (v1 v2 v3 v4 vd : V) (sl h : Int) (rs : List Row) (d : Deed), vs = [.ref p, vd, .int h] ∧ BkAt K C H p v1 v2 v3 v4 sl tl rs ∧ Dp K H vd (dD d) ∧ rs.length ≤ 1000 ∧ (∀ r ∈ rs, 0 ≤ r.1) ∧
  ∀ (H' : Hp) (n : Int), Next rs n → Sm [tl] H H' → BkAt K C H' p v1 v2 v3 v4 sl tl (rs ++ [(n, some (h, d))]) → Q (.int n) H'
abbrev s_bke : Stmt := inClass (topS 3) 1
def n_bke : List Str := ["self", "deed", "hour", "number", "row"]
theorem sc_bke : FnScope n_bke ["self", "deed", "hour"] (defScope s_bke) := ⟨rfl, rfl, rfl, by decide +kernel, rfl, by decide +kernel, by decide +kernel⟩
theorem ok_bke {C f : Addr} {fd : FuncData} {k : Nat} (F : FunVQ K "enter" "Book.enter" s_bke [.int 0] f fd) (T : Txt mg) (N : BkK K mg C) : FnOk P w K mg base CX0 (k + 1) f fd ["self", "deed", "hour"] (spBE K C) := by
  refine okQ F sc_bke (fun vs H Q E h => ?_) (fun cdv A outer s H vs Q E hr h => ?_)
  · obtain ⟨p, tl, v1, v2, v3, v4, vd, sl, h, rs, d, rfl, _⟩ := h
    rfl
  · obtain ⟨p, tl, v1, v2, v3, v4, vd, sl, h, rs, d, rfl, M, dvd, l, nn, q⟩ := h
    have nd := sc_bke.nd
    have hu := hu_of hr
    have hu64 := hr.units
    refine ⟨_, (pss_cons (ps_set (i := 3) nd rfl (.inl rfl) (pe_op op_add (pe_callBK (kc_maxO (K := K) hu64) (by rfl) T.max (by decide +kernel) (pa_cons (pe_lc (own := [("row", 4)]) rfl nd (ki_list (K := K) (ke_fld (K := K) (pv 0))) (blkOk_by (N := n_bke) (sc := defScope s_bke) (by decide +kernel)) (fun _ _ _ _ _ => (pg_name (i := 4) nd rfl (.inl rfl))) (fun _ _ _ _ _ => pts_nil) (fun _ _ _ _ _ => (pe_ix (kx_tup (K := K)) (pv 4) pe_int (fun _ _ => rfl)))) pa_nil) (pk_cons (pe_un un_neg pe_int) pk_nil)) pe_int))
      (pss_cons (ps_expr (pe_bm PySem.F.plainAttrs_list PySem.F.slot_list_append PySem.F.type_list_append mt_append (ke_fld (K := K) (pv 0)) (pa_cons (pe_tup (pa_cons (pv 3) (pa_cons (pv 2) (pa_cons (pv 1) pa_nil)))) pa_nil)))
      (pss_one (ps_ret (pv 3))))), ?_⟩
    have M0 := M
    obtain ⟨⟨dx, hp⟩, xs, hT, dT⟩ := M
    have lx : xs.length = rs.length := dpAll_map_len dT
    refine ⟨_, rfl, p, C, dx, _, _, rfl, hp, N.cl, N.a5, bf_told _ _ _ _ _ _, tl, rfl, ⟨_, SqL.of hT⟩, fun D nD => ?_⟩
    refine lc_it (walk_list (xs := xs)) (fun j Hx => Same H Hx ∧ Hx D = some (.lst (((rs.take j).map fun r => r.1).map V.int))) ⟨same_upd nD, upd_same⟩ (fun j Hx _ h => SqL.of (h.1 _ _ hT)) ?_ ?_
    · rintro i y Ha Hb hi ⟨sx, hD⟩ ⟨rfl, gy⟩
      obtain ⟨r, gr, dr⟩ := dpAll_at' dT gy
      obtain ⟨u, vx, vy, rfl, hu1, dvx, dvy⟩ := rw_parts (dp_same sx dr)
      refine ⟨rfl, tYes_at ?_⟩
      rw [if_pos rfl]
      refine ⟨_, rfl, u, _, 0, _, rfl, rfl, hu1, rfl, _, hD, ?_, same_put sx nD, ?_⟩
      · rw [List.length_map, List.length_map, List.length_take, sizeLine_eq]; omega
      · rw [upd_same, List.take_add_one, gr, List.map_append, List.map_append]; rfl
    · rintro He ⟨se, hD⟩
      rw [lx, List.take_length] at hD
      refine ⟨_, rfl, ?_⟩
      simp only [tNil]
      refine max_next (SqL.of hD) nn fun m hm => ⟨_, _, rfl, rfl, ?_⟩
      refine ⟨_, rfl, p, C, dx, _, _, rfl, se _ _ hp, N.cl, N.a5, bf_told _ _ _ _ _ _, .inl ⟨rfl, _, SqL.of (se _ _ hT)⟩, _, rfl, _, rfl, _, rfl, (by show 3 ≤ sizeLine; decide), fun t nt => ?_⟩
      have st := same_upd (o := .tup [V.int (m + 1), V.int h, vd]) nt
      have dr : Dp K (upd He t (.tup [V.int (m + 1), V.int h, vd])) (.ref t) (rwD (m + 1, some (h, d))) := .tup (.inl (.inl upd_same)) (.cons (.int _) (.cons (.int _) (.cons (dp_same (se.trans st) dvd) .nil)))
      obtain ⟨sm, M2⟩ := bk_add M0 hT (se.trans st) dr
      exact ⟨tl, xs, _, rfl, rfl, (se.trans st) _ _ hT, by rw [lx, sizeLine_eq]; omega, _, rfl, q _ _ hm sm M2⟩
/-- the numbers of what stands -/
def stN (rs : List Row) (n : Int) : Prop := ∃ e ∈ entF (lastF rs), e.2.1 = n
theorem dpAll_get {α : Type} {enc : α → PyData} {H : Hp} : ∀ {us : List V} {l : List α} {j : Nat} {v : V}, DpAll K H us (l.map enc) → us[j]? = some v → ∃ r, l[j]? = some r ∧ Dp K H v (enc r)
  | _, [], _, _, .nil, e => by rw [List.getElem?_nil] at e; cases e
  | _, b :: m, 0, _, .cons h _, e => ⟨b, rfl, by rw [← Option.some.inj (show some _ = some _ from e)]; exact h⟩
  | _, b :: m, j + 1, _, .cons _ t, e => dpAll_get (l := m) (j := j) t e
theorem ent_row {H : Hp} {us : List V} {e : Int × Int × Deed} (h : DpAll K H us [.int e.1, .int e.2.1, dD e.2.2]) : ∃ y, us = [.int e.1, .int e.2.1, y] := by
  cases h with
  | cons h t =>
    cases h
    cases t with
    | cons h2 t2 =>
      cases h2
      cases t2 with
      | cons h3 t3 =>
        cases t3
        exact ⟨_, rfl⟩
def spBC (K : PySem.W.Frag) (C CS : Addr) : Sp := fun vs H Q E => ∃ (p tl : Addr) (v1 v2 v3 v4 : V) (sl n : Int) (rs : List Row), vs = [.ref p, .int n] ∧ BkAt K C H p v1 v2 v3 v4 sl tl rs ∧ rs.length ≤ 1000 ∧
  (stN rs n → ∀ H', Same H H' → Q .non H') ∧
  (¬ stN rs n → ∀ (d : Addr) (H' : Hp), Same H H' → H d = none → H' d = some (.xd [("name", .int n), ("what", .str "entry")]) → E (.ref CS) (some d) H')
abbrev s_bkc : Stmt := inClass (topS 3) 4
def n_bkc : List Str := ["self", "number", "hour", "own", "deed"]
theorem sc_bkc : FnScope n_bkc ["self", "number"] (defScope s_bkc) := ⟨rfl, rfl, rfl, by decide +kernel, rfl, by decide +kernel, by decide +kernel⟩
theorem ok_bkc {C CS f : Addr} {fd : FuncData} {k : Nat} (F : Fun K "check" "Book.check" s_bkc f fd) (T : Txt mg) (N : BkK K mg C) (c_NoSuch : NsR P w K mg base 1 CS) (m_Book_entries : OMet P w K mg base (k + 1) C "entries" (spBN K C) []) : FnOk P w K mg base (L2.CX P w) (k + 3) f fd ["self", "number"] (spBC K C CS) := by
  refine F.okX sc_bkc (fun vs H Q E h => ?_) (fun cdv A outer s H vs Q E hr h => ?_)
  · obtain ⟨p, tl, v1, v2, v3, v4, sl, n, rs, rfl, _⟩ := h
    rfl
  · obtain ⟨p, tl, v1, v2, v3, v4, sl, n, rs, rfl, M, l, q, qe⟩ := h
    have nd := sc_bkc.nd
    have hu := hu_of hr
    have hu64 := hr.units
    /- 0 self, 1 number, 2 hour, 3 own, 4 deed -/
    refine ⟨_, (pss_one (ps_if (pt_cmpR (ko_notIn (K := K)) (pv 1) (pe_lc (own := [("hour", 2), ("own", 3), ("deed", 4)]) rfl nd (ki_list (K := K) (pe_omt0 m_Book_entries hr (by omega) (pv 0))) (blkOk_by (N := n_bkc) (sc := defScope s_bkc) (by decide +kernel)) (fun _ _ _ _ _ => (kg_tup (K := K) (n := 3) (pgs_cons (pg_name (i := 2) nd rfl (.inl rfl)) (pgs_cons (pg_name (i := 3) nd rfl (.inl rfl)) (pgs_cons (pg_name (i := 4) nd rfl (.inl rfl)) pgs_nil))))) (fun _ _ _ _ _ => pts_nil) (fun _ _ _ _ _ => (pv 3))) rfl)
          (pss_one (ps_raise rfl (takes_of rfl rfl rfl rfl) (pmk_ns (j := 1) c_NoSuch (hr.mono (by omega)) (by omega) (by rfl) (pa_cons pe_str (pa_cons (pv 1) pa_nil)))))
          pss_nil)), ?_⟩
    have M0 := M
    obtain ⟨dx, hp⟩ := M.ob
    refine ⟨_, rfl, _, rfl, p, dx, _, rfl, hp, bk_no (by decide +kernel) (by decide +kernel) (by decide +kernel) (by decide +kernel) (by decide +kernel) (by decide +kernel), ?_⟩
    refine ⟨p, tl, v1, v2, v3, v4, sl, rs, rfl, M0, l, fun Hz R us sz nR hR dR => ?_⟩
    rw [show entsD rs = (entS (lastF rs)).map entD from entsL_eq _] at dR
    have lu : us.length = (entS (lastF rs)).length := dpAll_map_len dR
    have le : (entS (lastF rs)).length ≤ 1000 := by rw [entS_len]; exact Nat.le_trans (Nat.le_trans (entF_len _) (lastF_le rs)) l
    refine ⟨R, rfl, ⟨_, SqL.of hR⟩, fun D nD => ?_⟩
    refine lc_it (walk_list (xs := us)) (fun j Hx => Same Hz Hx ∧ Hx D = some (.lst ((((entS (lastF rs)).take j).map fun e => e.2.1).map V.int))) ⟨same_upd nD, upd_same⟩ (fun j Hx _ h => SqL.of (h.1 _ _ hR)) ?_ ?_
    · rintro i y Ha Hb hi ⟨sx, hD⟩ ⟨rfl, gy⟩
      obtain ⟨e, ge, de⟩ := dpAll_get dR gy
      obtain ⟨u, us3, rfl, hu1, d3⟩ := dp_tup (dp_same sx de)
      obtain ⟨y3, rfl⟩ := ent_row d3
      refine ⟨u, _, rfl, hu1, rfl, _, _, rfl, _, _, rfl, _, _, rfl, rfl, rfl, tYes_at ?_⟩
      rw [if_pos rfl]
      refine ⟨_, rfl, _, hD, ?_, same_put sx nD, ?_⟩
      · rw [List.length_map, List.length_map, List.length_take, sizeLine_eq]; omega
      · rw [upd_same, List.take_add_one, ge, List.map_append, List.map_append]; rfl
    rintro He ⟨se, hD⟩
    rw [lu, List.take_length] at hD
    refine ⟨D, _, rfl, .inl (SqL.of hD), rfl, ?_, _, rfl, ?_⟩
    · rw [List.all_map]; exact List.all_eq_true.mpr fun _ _ => rfl
    have s2 := sz.trans se
    rw [if_pos rfl, inV_ints]
    have iff : n ∈ (entS (lastF rs)).map (fun e => e.2.1) ↔ stN rs n := ⟨fun h => by
      obtain ⟨e, he, rfl⟩ := List.mem_map.mp h
      exact ⟨e, mem_entS.mp he, rfl⟩, fun ⟨e, he, x⟩ => List.mem_map.mpr ⟨e, mem_entS.mpr he, x⟩⟩
    by_cases c : stN rs n
    · rw [decide_eq_true (iff.mpr c)]
      exact iteF (q c _ s2)
    · rw [decide_eq_false fun z => c (iff.mp z)]
      refine iteT ?_
      refine ⟨_, rfl, (by show 2 ≤ 1000; decide), fun a na => ⟨a, Str.ofString "entry", .int n, rfl, (by decide +kernel), upd_same, fun d nd ne => ?_⟩⟩
      have nd : He d = none := by rw [upd_ne ne] at nd; exact nd
      refine ⟨rfl, d, _, (upd_ne (Ne.symm ne)).trans upd_same, upd_same, nd, ?_⟩
      refine qe c d _ (s2.trans fun y o ey => ?_) (s2.free nd) upd_same
      have ya : y ≠ a := ne_of_none ey na
      have yd : y ≠ d := ne_of_none ey nd
      rw [upd_ne yd, del_ne ya, upd_ne yd, upd_ne ya, upd_ne yd, upd_ne ya]
      exact ey
def spBP (K : PySem.W.Frag) (C CS : Addr) : Sp := fun vs H Q E => ∃ (p tl : Addr) (v1 v2 v3 v4 vd : V) (sl n h : Int) (rs : List Row) (d : Deed), vs = [.ref p, .int n, vd, .int h] ∧ BkAt K C H p v1 v2 v3 v4 sl tl rs ∧ Dp K H vd (dD d) ∧ rs.length ≤ 1000 ∧
  (stN rs n → ∀ H', Sm [tl] H H' → BkAt K C H' p v1 v2 v3 v4 sl tl (rs ++ [(n, some (h, d))]) → Q .non H') ∧
  (¬ stN rs n → ∀ (d : Addr) (H' : Hp), Same H H' → H d = none → H' d = some (.xd [("name", .int n), ("what", .str "entry")]) → E (.ref CS) (some d) H')
abbrev s_bkp : Stmt := inClass (topS 3) 2
def n_bkp : List Str := ["self", "number", "deed", "hour"]
theorem sc_bkp : FnScope n_bkp ["self", "number", "deed", "hour"] (defScope s_bkp) := ⟨rfl, rfl, rfl, by decide +kernel, rfl, by decide +kernel, by decide +kernel⟩
theorem ok_bkp {C CS f : Addr} {fd : FuncData} {k : Nat} (F : Fun K "put_right" "Book.put_right" s_bkp f fd) (N : BkK K mg C) (m_Book_check : OMetX P w K mg base (k + 3) C "check" (spBC K C CS) []) : FnOk P w K mg base (L2.CX P w) (k + 4) f fd ["self", "number", "deed", "hour"] (spBP K C CS) := by
  refine F.okX sc_bkp (fun vs H Q E h => ?_) (fun cdv A outer s H vs Q E hr h => ?_)
  · obtain ⟨p, tl, v1, v2, v3, v4, vd, sl, n, h, rs, d, rfl, _⟩ := h
    rfl
  · obtain ⟨p, tl, v1, v2, v3, v4, vd, sl, n, h, rs, d, rfl, M, dvd, l, q, qe⟩ := h
    have nd := sc_bkp.nd
    /- 0 self, 1 number, 2 deed, 3 hour -/
    refine ⟨_, (pss_cons (ps_expr (pe_omx m_Book_check hr (by omega) (takes_of rfl rfl rfl rfl) (pv 0) (pa_cons (pv 1) pa_nil)))
      (pss_one (ps_expr (pe_bm PySem.F.plainAttrs_list PySem.F.slot_list_append PySem.F.type_list_append mt_append (ke_fld (K := K) (pv 0)) (pa_cons (pe_tup (pa_cons (pv 1) (pa_cons (pv 3) (pa_cons (pv 2) pa_nil)))) pa_nil))))), ?_⟩
    obtain ⟨dx, hp⟩ := M.ob
    refine ⟨_, rfl, p, dx, _, rfl, hp, bk_no (by decide +kernel) (by decide +kernel) (by decide +kernel) (by decide +kernel) (by decide +kernel) (by decide +kernel), _, rfl, ?_⟩
    refine ⟨p, tl, v1, v2, v3, v4, sl, n, rs, rfl, M, l, fun c He se => ?_, fun c d He se nd hd => qe c d He se nd hd⟩
    obtain ⟨us, hT, dT⟩ := M.li
    have lx : us.length = rs.length := dpAll_map_len dT
    refine ⟨_, rfl, p, C, dx, _, _, rfl, se _ _ hp, N.cl, N.a5, bf_told _ _ _ _ _ _, .inl ⟨rfl, _, SqL.of (se _ _ hT)⟩, _, rfl, _, rfl, _, rfl, (by show 3 ≤ sizeLine; decide), fun t nt => ?_⟩
    have st := same_upd (o := .tup [V.int n, V.int h, vd]) nt
    have dr : Dp K (upd He t (.tup [V.int n, V.int h, vd])) (.ref t) (rwD (n, some (h, d))) := .tup (.inl (.inl upd_same)) (.cons (.int _) (.cons (.int _) (.cons (dp_same (se.trans st) dvd) .nil)))
    obtain ⟨sm, M2⟩ := bk_add M hT (se.trans st) dr
    exact ⟨tl, us, _, rfl, rfl, (se.trans st) _ _ hT, by rw [lx, sizeLine_eq]; omega, q c _ sm M2⟩
def spBS (K : PySem.W.Frag) (C CS : Addr) : Sp := fun vs H Q E => ∃ (p tl : Addr) (v1 v2 v3 v4 : V) (sl n : Int) (rs : List Row), vs = [.ref p, .int n] ∧ BkAt K C H p v1 v2 v3 v4 sl tl rs ∧ rs.length ≤ 1000 ∧
  (stN rs n → ∀ H', Sm [tl] H H' → BkAt K C H' p v1 v2 v3 v4 sl tl (rs ++ [(n, none)]) → Q .non H') ∧
  (¬ stN rs n → ∀ (d : Addr) (H' : Hp), Same H H' → H d = none → H' d = some (.xd [("name", .int n), ("what", .str "entry")]) → E (.ref CS) (some d) H')
abbrev s_bks : Stmt := inClass (topS 3) 3
def n_bks : List Str := ["self", "number"]
theorem sc_bks : FnScope n_bks ["self", "number"] (defScope s_bks) := ⟨rfl, rfl, rfl, by decide +kernel, rfl, by decide +kernel, by decide +kernel⟩
theorem ok_bks {C CS f : Addr} {fd : FuncData} {k : Nat} (F : Fun K "strike" "Book.strike" s_bks f fd) (N : BkK K mg C) (m_Book_check : OMetX P w K mg base (k + 3) C "check" (spBC K C CS) []) : FnOk P w K mg base (L2.CX P w) (k + 4) f fd ["self", "number"] (spBS K C CS) := by
  refine F.okX sc_bks (fun vs H Q E h => ?_) (fun cdv A outer s H vs Q E hr h => ?_)
  · obtain ⟨p, tl, v1, v2, v3, v4, sl, n, rs, rfl, _⟩ := h
    rfl
  · obtain ⟨p, tl, v1, v2, v3, v4, sl, n, rs, rfl, M, l, q, qe⟩ := h
    have nd := sc_bks.nd
    /- 0 self, 1 number -/
    refine ⟨_, (pss_cons (ps_expr (pe_omx m_Book_check hr (by omega) (takes_of rfl rfl rfl rfl) (pv 0) (pa_cons (pv 1) pa_nil)))
      (pss_one (ps_expr (pe_bm PySem.F.plainAttrs_list PySem.F.slot_list_append PySem.F.type_list_append mt_append (ke_fld (K := K) (pv 0)) (pa_cons (pe_tup (pa_cons (pv 1) (pa_cons pe_non (pa_cons pe_non pa_nil)))) pa_nil))))), ?_⟩
    obtain ⟨dx, hp⟩ := M.ob
    refine ⟨_, rfl, p, dx, _, rfl, hp, bk_no (by decide +kernel) (by decide +kernel) (by decide +kernel) (by decide +kernel) (by decide +kernel) (by decide +kernel), _, rfl, ?_⟩
    refine ⟨p, tl, v1, v2, v3, v4, sl, n, rs, rfl, M, l, fun c He se => ?_, fun c d He se nd hd => qe c d He se nd hd⟩
    obtain ⟨us, hT, dT⟩ := M.li
    have lx : us.length = rs.length := dpAll_map_len dT
    refine ⟨_, rfl, p, C, dx, _, _, rfl, se _ _ hp, N.cl, N.a5, bf_told _ _ _ _ _ _, .inl ⟨rfl, _, SqL.of (se _ _ hT)⟩, _, rfl, (by show 3 ≤ sizeLine; decide), fun t nt => ?_⟩
    have st := same_upd (o := .tup [V.int n, V.non, V.non]) nt
    have dr : Dp K (upd He t (.tup [V.int n, V.non, V.non])) (.ref t) (rwD (n, none)) := .tup (.inl (.inl upd_same)) (.cons (.int _) (.cons .non (.cons .non .nil)))
    obtain ⟨sm, M2⟩ := bk_add M hT (se.trans st) dr
    exact ⟨tl, us, _, rfl, rfl, (se.trans st) _ _ hT, by rw [lx, sizeLine_eq]; omega, q c _ sm M2⟩

theorem ins_new {C x dx : Addr} {H1 : Hp} (nx : H1 x = none) (ndx : H1 dx = none) (ne : dx ≠ x) : Same H1 (upd (upd H1 dx (.own x)) x (.ins C dx [])) := fun b o e => by
  have h1 : b ≠ x := fun z => by rw [z, nx] at e; cases e
  have h2 : b ≠ dx := fun z => by rw [z, ndx] at e; cases e
  rw [upd_ne h1, upd_ne h2]
  exact e
theorem cut_to (xs : List V) {m : Nat} (h : m ≤ xs.length) : cutV xs none (some (m : Int)) = xs.take m := by
  unfold cutV
  rw [HT.sIx_nat, HT.sIx_none, List.drop_zero, Nat.sub_zero, Nat.min_eq_left h]
theorem dpAll_dropLast {H : Hp} {us : List V} {ds : List PyData} (h : DpAll K H us ds) : DpAll K H us.dropLast ds.dropLast := by
  rw [List.dropLast_eq_take, List.dropLast_eq_take, dpAll_len h]
  exact dpAll_take _ h
def spBU (K : PySem.W.Frag) (C : Addr) : Sp := fun vs H Q _ => ∃ (p tl : Addr) (v1 v2 v3 v4 : V) (sl : Int) (rs : List Row), vs = [.ref p] ∧ BkAt K C H p v1 v2 v3 v4 sl tl rs ∧ (rs = [] → Q (.bl false) H) ∧ (rs ≠ [] → ∀ H', Sm [tl] H H' → BkAt K C H' p v1 v2 v3 v4 sl tl rs.dropLast → Q (.bl true) H')
abbrev s_bku : Stmt := inClass (topS 3) 5
def n_bku : List Str := ["self"]
theorem sc_bku : FnScope n_bku ["self"] (defScope s_bku) := ⟨rfl, rfl, rfl, by decide +kernel, rfl, by decide +kernel, by decide +kernel⟩
theorem ok_bku {C f : Addr} {fd : FuncData} {k : Nat} (F : Fun K "undo" "Book.undo" s_bku f fd) (N : BkK K mg C) : FnOk P w K mg base CX0 (k + 1) f fd ["self"] (spBU K C) := by
  refine F.ok sc_bku (fun vs H Q E h => ?_) (fun cdv A outer s H vs Q E hr h => ?_)
  · obtain ⟨p, tl, v1, v2, v3, v4, sl, rs, rfl, _⟩ := h
    rfl
  · obtain ⟨p, tl, v1, v2, v3, v4, sl, rs, rfl, M, q0, q1⟩ := h
    have nd := sc_bku.nd
    refine ⟨_, (pss_cons (ps_if (pt_not (kt_truth (K := K) (ke_fld (K := K) (pv 0))))
          (pss_one (ps_ret pe_bl))
          pss_nil)
      (pss_cons (ps_expr (pe_bm0 PySem.F.plainAttrs_list PySem.F.slot_list_pop PySem.F.type_list_pop mt_pop (ke_fld (K := K) (pv 0))))
      (pss_one (ps_ret pe_bl)))), ?_⟩
    obtain ⟨dx, hp⟩ := M.ob
    obtain ⟨us, hT, dT⟩ := M.li
    have lx : us.length = rs.length := dpAll_map_len dT
    refine ⟨_, rfl, p, C, dx, _, _, rfl, hp, N.cl, N.a5, bf_told _ _ _ _ _ _, !us.isEmpty, .inl ⟨_, SqL.of hT, rfl⟩, ?_⟩
    rcases List.eq_nil_or_concat rs with e0 | ⟨rs0, r, e0⟩
    · have eu : us = [] := List.eq_nil_of_length_eq_zero (by rw [lx, e0]; rfl)
      rw [eu]
      exact iteT (q0 e0)
    · have ne : rs ≠ [] := by rw [e0]; simp
      have eu : us ≠ [] := fun z => ne (List.eq_nil_of_length_eq_zero (by rw [← lx, z]; rfl))
      have ei : us.isEmpty = false := by cases us with | nil => exact (eu rfl).elim | cons _ _ => rfl
      rw [ei]
      refine iteF ?_
      refine ⟨_, rfl, p, C, dx, _, _, rfl, hp, N.cl, N.a5, bf_told _ _ _ _ _ _, .inl ⟨rfl, _, SqL.of hT⟩, ?_⟩
      have pt : p ≠ tl := fun z => by rw [z, hT] at hp; cases hp
      have sw := sm_wr (H := H) (S := [tl]) (p := tl) (o := .lst us.dropLast) (by simp)
      refine ⟨tl, us, _, rfl, rfl, hT, List.getLast?_eq_getElem?.symm.trans (List.getLast?_eq_some_getLast eu), q1 ne _ sw ⟨⟨dx, (upd_ne pt).trans hp⟩, _, upd_same, ?_⟩⟩
      rw [List.map_dropLast]
      exact dpAll_nt (dpAll_dropLast dT) (by rw [← List.map_dropLast]; exact noL_map (f := rwD) noL_rw _) sw (lst_nt hT)
def spBT (K : PySem.W.Frag) (C : Addr) : Sp := fun vs H Q _ => ∃ (p tl : Addr) (v1 v2 v3 v4 : V) (sl : Int) (rs : List Row), vs = [.ref p] ∧ BkAt K C H p v1 v2 v3 v4 sl tl rs ∧ Q (.int (rs.length : Nat)) H
abbrev s_bkt : Stmt := inClass (topS 3) 7
def n_bkt : List Str := ["self"]
theorem sc_bkt : FnScope n_bkt ["self"] (defScope s_bkt) := ⟨rfl, rfl, rfl, by decide +kernel, rfl, by decide +kernel, by decide +kernel⟩
theorem ok_bkt {C f : Addr} {fd : FuncData} {k : Nat} (F : Fun K "told_times" "Book.told_times" s_bkt f fd) (T : Txt mg) (N : BkK K mg C) : FnOk P w K mg base CX0 (k + 1) f fd ["self"] (spBT K C) := by
  refine F.ok sc_bkt (fun vs H Q E h => ?_) (fun cdv A outer s H vs Q E hr h => ?_)
  · obtain ⟨p, tl, v1, v2, v3, v4, sl, rs, rfl, _⟩ := h
    rfl
  · obtain ⟨p, tl, v1, v2, v3, v4, sl, rs, rfl, M, q⟩ := h
    have nd := sc_bkt.nd
    refine ⟨_, (pss_one (ps_ret (pe_callB (kc_len (K := K)) (by rfl) T.len PySem.boot_len (pa_cons (ke_fld (K := K) (pv 0)) pa_nil)))), ?_⟩
    obtain ⟨dx, hp⟩ := M.ob
    obtain ⟨us, hT, dT⟩ := M.li
    have lx : us.length = rs.length := dpAll_map_len dT
    exact ⟨_, rfl, p, C, dx, _, _, rfl, hp, N.cl, N.a5, bf_told _ _ _ _ _ _, _, _, rfl, .inl ⟨_, SqL.of hT, lx.symm⟩, q⟩
def spBA (K : PySem.W.Frag) (C : Addr) : Sp := fun vs H Q _ => ∃ (p tl : Addr) (v1 v2 v3 v4 : V) (sl : Int) (rs : List Row) (m : Nat), vs = [.ref p, .int (m : Nat)] ∧ BkAt K C H p v1 v2 v3 v4 sl tl rs ∧ m ≤ rs.length ∧ rs.length ≤ 1000 ∧
  ∀ (H' : Hp) (p2 tl2 : Addr), Same H H' → H p2 = none → H tl2 = none → BkAt K C H' p2 v1 v2 v3 v4 sl tl2 (rs.take m) → Q (.ref p2) H'
abbrev s_bka : Stmt := inClass (topS 3) 8
def n_bka : List Str := ["self", "many", "book"]
theorem sc_bka : FnScope n_bka ["self", "many"] (defScope s_bka) := ⟨rfl, rfl, rfl, by decide +kernel, rfl, by decide +kernel, by decide +kernel⟩
theorem ok_bka {C f : Addr} {fd : FuncData} {k : Nat} (F : Fun K "as_told" "Book.as_told" s_bka f fd) (T : Txt mg) (N : BkK K mg C) (mk_Book : OMak P w K mg base (k + 1) "Book" C (spBI K C) []) : FnOk P w K mg base CX0 (k + 3) f fd ["self", "many"] (spBA K C) := by
  refine F.ok sc_bka (fun vs H Q E h => ?_) (fun cdv A outer s H vs Q E hr h => ?_)
  · obtain ⟨p, tl, v1, v2, v3, v4, sl, rs, m, rfl, _⟩ := h
    rfl
  · obtain ⟨p, tl, v1, v2, v3, v4, sl, rs, m, rfl, M, hm, l, q⟩ := h
    have nd := sc_bka.nd
    /- 0 self, 1 many, 2 book -/
    refine ⟨_, (pss_cons (ps_set (i := 2) nd rfl (.inl rfl) (pe_omk mk_Book hr (by omega) (by rfl) (pa_cons (ke_fld (K := K) (pv 0)) (pa_cons (ke_fld (K := K) (pv 0)) (pa_cons (ke_fld (K := K) (pv 0)) (pa_cons (ke_fld (K := K) (pv 0)) (pa_cons (ke_fld (K := K) (pv 0)) pa_nil)))))))
      (pss_cons (ps_fld (pv 2) (pe_slice (kl_list (K := K)) (ke_fld (K := K) (pv 0)) po_none (po_some (pv 1))) rfl)
      (pss_one (ps_ret (pv 2))))), ?_⟩
    obtain ⟨dx, hp⟩ := M.ob
    obtain ⟨us, hT, dT⟩ := M.li
    have lx : us.length = rs.length := dpAll_map_len dT
    refine ⟨_, rfl, p, C, dx, _, _, rfl, hp, N.cl, N.a0, bf_palette _ _ _ _ _ _, _, rfl, p, C, dx, _, _, rfl, hp, N.cl, N.a1, bf_kinds _ _ _ _ _ _, _, rfl, p, C, dx, _, _, rfl, hp, N.cl, N.a2, bf_teams _ _ _ _ _ _, _, rfl, p, C, dx, _, _, rfl, hp, N.cl, N.a3, bf_pots _ _ _ _ _ _, _, rfl, p, C, dx, _, _, rfl, hp, N.cl, N.a4, bf_slots _ _ _ _ _ _, ?_⟩
    intro q2 dq nq2 ndq neq
    refine ⟨H, q2, dq, v1, v2, v3, v4, sl, rfl, ins_new nq2 ndq neq, nq2, upd_same, fun H1 tl2 s1 nt2 ne2 M2 => ⟨rfl, ?_⟩⟩
    refine ⟨_, rfl, p, C, dx, _, _, rfl, s1 _ _ hp, N.cl, N.a5, bf_told _ _ _ _ _ _, _, rfl, m, rfl, tl, us, rfl, SqL.of (s1 _ _ hT), fun L nL => ?_⟩
    obtain ⟨dx2, hp2⟩ := M2.ob
    have sL := same_upd (o := .lst (cutV us none (some (m : Nat)))) nL
    refine ⟨_, rfl, q2, C, dx2, _, rfl, sL _ _ hp2, N.cl, N.a5, (by show 6 < 1000; decide), ?_⟩
    rw [bk_told, cut_to _ (by omega)]
    have L2 : L ≠ q2 := fun z => by rw [z, hp2] at nL; cases nL
    refine ⟨_, rfl, q _ q2 L (fun b o e => ?_) nq2 (s1.free nL) ⟨⟨dx2, upd_same⟩, _, (upd_ne L2).trans upd_same, ?_⟩⟩
    · have bq : b ≠ q2 := fun z => by rw [z, nq2] at e; cases e
      have bL : b ≠ L := fun z => by rw [z, s1.free nL] at e; cases e
      rw [upd_ne bq, upd_ne bL]
      exact s1 _ _ e
    · rw [List.map_take]
      refine dpAll_nt (dpAll_take m (dpAll_same s1 dT)) (by rw [← List.map_take]; exact noL_map (f := rwD) noL_rw _) (S := [L, q2]) ?_ ?_
      · exact (sm_wr (by simp)).trans (sm_wr (by simp))
      · intro x hx ob e
        rcases List.mem_cons.mp hx with rfl | hx
        · rw [nL] at e; cases e
        · rw [List.mem_singleton.mp hx, hp2] at e
          cases e
          exact ⟨fun _ z => (by cases z), fun _ _ z => (by cases z)⟩
def spBW (K : PySem.W.Frag) (C : Addr) : Sp := fun vs H Q _ => ∃ (p tl : Addr) (v1 v2 v3 v4 : V) (sl : Int) (rs : List Row), vs = [.ref p] ∧ BkAt K C H p v1 v2 v3 v4 sl tl rs ∧ rs.length ≤ 1000 ∧
  ∀ (H' : Hp) (p2 tl2 : Addr), Same H H' → H p2 = none → H tl2 = none → BkAt K C H' p2 v1 v2 v3 v4 sl tl2 rs → Q (.ref p2) H'
abbrev s_bkw : Stmt := inClass (topS 3) 9
def n_bkw : List Str := ["self"]
theorem sc_bkw : FnScope n_bkw ["self"] (defScope s_bkw) := ⟨rfl, rfl, rfl, by decide +kernel, rfl, by decide +kernel, by decide +kernel⟩
theorem ok_bkw {C f : Addr} {fd : FuncData} {k : Nat} (F : Fun K "twin" "Book.twin" s_bkw f fd) (T : Txt mg) (N : BkK K mg C) (m_Book_as_told : OMet P w K mg base (k + 3) C "as_told" (spBA K C) []) (m_Book_told_times : OMet P w K mg base 1 C "told_times" (spBT K C) []) : FnOk P w K mg base CX0 (k + 4) f fd ["self"] (spBW K C) := by
  refine F.ok sc_bkw (fun vs H Q E h => ?_) (fun cdv A outer s H vs Q E hr h => ?_)
  · obtain ⟨p, tl, v1, v2, v3, v4, sl, rs, rfl, _⟩ := h
    rfl
  · obtain ⟨p, tl, v1, v2, v3, v4, sl, rs, rfl, M, l, q⟩ := h
    have nd := sc_bkw.nd
    /- 0 self -/
    refine ⟨_, (pss_one (ps_ret (pe_omt m_Book_as_told hr (by omega) (pv 0) (pa_cons (pe_omt0 m_Book_told_times hr (by omega) (pv 0)) pa_nil)))), ?_⟩
    obtain ⟨dx, hp⟩ := M.ob
    have no : ∀ {m : Str}, (m == ("palette" : Str)) = false → (m == ("kinds" : Str)) = false → (m == ("teams" : Str)) = false → (m == ("pots" : Str)) = false → (m == ("slots" : Str)) = false → (m == ("told" : Str)) = false → (bkF v1 v2 v3 v4 sl tl).lookup m = none := fun a b c d e f => bk_no a b c d e f
    refine ⟨_, rfl, p, dx, _, rfl, hp, no (by decide +kernel) (by decide +kernel) (by decide +kernel) (by decide +kernel) (by decide +kernel) (by decide +kernel), _, rfl, p, dx, _, rfl, hp, no (by decide +kernel) (by decide +kernel) (by decide +kernel) (by decide +kernel) (by decide +kernel) (by decide +kernel), ?_⟩
    refine ⟨p, tl, v1, v2, v3, v4, sl, rs, rfl, M, ?_⟩
    exact ⟨p, tl, v1, v2, v3, v4, sl, rs, rs.length, rfl, M, Nat.le_refl _, l, fun H' p2 tl2 s n1 n2 M2 => q H' p2 tl2 s n1 n2 (by rwa [List.take_length] at M2)⟩
def spBL (K : PySem.W.Frag) (C : Addr) : Sp := fun vs H Q _ => ∃ (p tl : Addr) (v1 v2 v3 v4 : V) (sl : Int) (rs : List Row), vs = [.ref p] ∧ BkAt K C H p v1 v2 v3 v4 sl tl rs ∧ rs.length ≤ 1000 ∧ ∀ H', Same H H' → Q (.int ((entsD rs).length : Nat)) H'
abbrev s_bkl : Stmt := inClass (topS 3) 10
def n_bkl : List Str := ["self"]
theorem sc_bkl : FnScope n_bkl ["self"] (defScope s_bkl) := ⟨rfl, rfl, rfl, by decide +kernel, rfl, by decide +kernel, by decide +kernel⟩
theorem ok_bkl {C f : Addr} {fd : FuncData} {k : Nat} (F : Fun K "__len__" "Book.__len__" s_bkl f fd) (T : Txt mg) (N : BkK K mg C) (m_Book_entries : OMet P w K mg base (k + 1) C "entries" (spBN K C) []) : FnOk P w K mg base CX0 (k + 2) f fd ["self"] (spBL K C) := by
  refine F.ok sc_bkl (fun vs H Q E h => ?_) (fun cdv A outer s H vs Q E hr h => ?_)
  · obtain ⟨p, tl, v1, v2, v3, v4, sl, rs, rfl, _⟩ := h
    rfl
  · obtain ⟨p, tl, v1, v2, v3, v4, sl, rs, rfl, M, l, q⟩ := h
    have nd := sc_bkl.nd
    /- 0 self -/
    refine ⟨_, (pss_one (ps_ret (pe_callB (kc_len (K := K)) (by rfl) T.len PySem.boot_len (pa_cons (pe_omt0 m_Book_entries hr (by omega) (pv 0)) pa_nil)))), ?_⟩
    obtain ⟨dx, hp⟩ := M.ob
    refine ⟨_, rfl, p, dx, _, rfl, hp, bk_no (by decide +kernel) (by decide +kernel) (by decide +kernel) (by decide +kernel) (by decide +kernel) (by decide +kernel), ?_⟩
    refine ⟨p, tl, v1, v2, v3, v4, sl, rs, rfl, M, l, fun H' R us s nR hR dR => ?_⟩
    have lx : us.length = (entsD rs).length := dpAll_len dR
    exact ⟨_, _, rfl, .inl ⟨_, SqL.of hR, lx.symm⟩, q _ s⟩

end
end Pot

namespace Pot
open PySem PySem.Spec PyProof.Rows L2
section
variable {P : Program} {w : World} {K : PySem.W.Frag} {mg : Str → Option Value} {base : Heap}
/-! ### == of Books -/
structure BkV where
  d1 : PyData
  d2 : PyData
  d3 : PyData
  d4 : PyData
  sl : Int
/-- a Book with what its fields are -/
structure BkX (K : PySem.W.Frag) (C : Addr) (H : Hp) (p : Addr) (x : BkV) (tl : Addr) (rs : List Row) : Prop where
  ex : ∃ v1 v2 v3 v4, BkAt K C H p v1 v2 v3 v4 x.sl tl rs ∧ Dp K H v1 x.d1 ∧ Dp K H v2 x.d2 ∧ Dp K H v3 x.d3 ∧ Dp K H v4 x.d4
  s1 : SeqAt.shaped x.d1 = true
  s2 : SeqAt.shaped x.d2 = true
  s3 : SeqAt.shaped x.d3 = true
  s4 : SeqAt.shaped x.d4 = true
  se : SeqAt.shaped (.list (entsD rs)) = true
  l : rs.length ≤ 1000
theorem BkX.same {C : Addr} {H H' : Hp} {p tl : Addr} {x : BkV} {rs : List Row} (h : BkX K C H p x tl rs) (s : Same H H') : BkX K C H' p x tl rs := by
  obtain ⟨⟨v1, v2, v3, v4, M, a, b, c, d⟩, r1, r2, r3, r4, r5, r6⟩ := h
  exact ⟨⟨v1, v2, v3, v4, M.same s, dp_same s a, dp_same s b, dp_same s c, dp_same s d⟩, r1, r2, r3, r4, r5, r6⟩
def eqB (x y : BkV) (rs ss : List Row) : Bool := PyData.eqv x.d1 y.d1 && (PyData.eqv x.d2 y.d2 && (PyData.eqv x.d3 y.d3 && (PyData.eqv x.d4 y.d4 && (decide (x.sl = y.sl) && PyData.eqv (.list (entsD rs)) (.list (entsD ss))))))
def spBQ (K : PySem.W.Frag) (C : Addr) : Sp := fun vs H Q _ => ∃ (p tl : Addr) (x : BkV) (rs : List Row) (y : V), vs = [.ref p, y] ∧ BkX K C H p x tl rs ∧
  ((∃ (p2 tl2 : Addr) (x2 : BkV) (ss : List Row), y = .ref p2 ∧ BkX K C H p2 x2 tl2 ss ∧ ∀ H', Same H H' → Q (.bl (eqB x x2 rs ss)) H') ∨ (∃ t, TyOf K H y t ∧ PySem.W.kitOne K t (.ref C) = some false ∧ Q (.bl false) H))
abbrev s_bkq : Stmt := inClass (topS 3) 11
def n_bkq : List Str := ["self", "other"]
theorem sc_bkq : FnScope n_bkq ["self", "other"] (defScope s_bkq) := ⟨rfl, rfl, rfl, by decide +kernel, rfl, by decide +kernel, by decide +kernel⟩
theorem ok_bkq {C f : Addr} {fd : FuncData} {k : Nat} (F : Fun K "__eq__" "Book.__eq__" s_bkq f fd) (T : Txt mg) (N : BkK K mg C) (I : C8.InsC K C) (m_Book_entries : OMet P w K mg base (k + 1) C "entries" (spBN K C) []) : FnOk P w K mg base CX0 (k + 2) f fd ["self", "other"] (spBQ K C) := by
  refine F.ok sc_bkq (fun vs H Q E h => ?_) (fun cdv A outer s H vs Q E hr h => ?_)
  · obtain ⟨p, tl, x, rs, y, rfl, _⟩ := h
    rfl
  · obtain ⟨p, tl, x, rs, y, rfl, M, h⟩ := h
    have nd := sc_bkq.nd
    have hu64 := hr.units
    have gl_Book := N.gl
    let CBook := C
    refine ⟨_, (pss_one (ps_ret (pe_and (pe_callB (kc_isT (C := CBook)) (by rfl) T.isinstance (by decide +kernel) (pa_cons (pv 1) (pa_cons (pe_glob (v := .ref CBook) (by rfl) gl_Book rfl) pa_nil))) (pe_and (pe_cmpR (ko_eq (K := K) hu64) (ke_fld (K := K) (pv 0)) (ke_fld (K := K) (pv 1)) (nomark _)) (pe_and (pe_cmpR (ko_eq (K := K) hu64) (ke_fld (K := K) (pv 0)) (ke_fld (K := K) (pv 1)) (nomark _)) (pe_and (pe_cmpR (ko_eq (K := K) hu64) (ke_fld (K := K) (pv 0)) (ke_fld (K := K) (pv 1)) (nomark _)) (pe_and (pe_cmpR (ko_eq (K := K) hu64) (ke_fld (K := K) (pv 0)) (ke_fld (K := K) (pv 1)) (nomark _)) (pe_and (pe_cmpR op_eq (ke_fld (K := K) (pv 0)) (ke_fld (K := K) (pv 1)) (nomark _)) (pe_one (pe_cmpR (ko_eq (K := K) hu64) (pe_omt0 m_Book_entries hr (by omega) (pv 0)) (pe_omt0 m_Book_entries hr (by omega) (pv 1)) (nomark _))))))))))), ?_⟩
    rcases h with ⟨p2, tl2, x2, ss, rfl, M2, q⟩ | ⟨t, ty, kt, q⟩
    · obtain ⟨v1, v2, v3, v4, B1, a1, a2, a3, a4⟩ := M.ex
      obtain ⟨w1, w2, w3, w4, B2, b1, b2, b3, b4⟩ := M2.ex
      obtain ⟨dx, hp⟩ := B1.ob
      obtain ⟨dy, hp2⟩ := B2.ob
      unfold eqB at q
      have q0 := q _ (Same.refl _)
      refine ⟨_, rfl, .ref p2, .ref C, true, rfl, .ins hp2 I.cl I.ha I.hn I.htk I.hm, I.me, _, rfl, iteT ?_⟩
      refine ⟨_, rfl, p, C, dx, _, _, rfl, hp, N.cl, N.a0, bf_palette _ _ _ _ _ _, _, rfl, p2, C, dy, _, _, rfl, hp2, N.cl, N.a0, bf_palette _ _ _ _ _ _, _, _, a1, b1, M.s1, M2.s1, _, rfl, ?_⟩
      cases c1 : PyData.eqv x.d1 x2.d1 with
      | false =>
        rw [c1] at q0
        exact iteF q0
      | true =>
        refine iteT ?_
        refine ⟨_, rfl, p, C, dx, _, _, rfl, hp, N.cl, N.a1, bf_kinds _ _ _ _ _ _, _, rfl, p2, C, dy, _, _, rfl, hp2, N.cl, N.a1, bf_kinds _ _ _ _ _ _, _, _, a2, b2, M.s2, M2.s2, _, rfl, ?_⟩
        rw [c1] at q0 q
        cases c2 : PyData.eqv x.d2 x2.d2 with
        | false =>
          rw [c2] at q0
          exact iteF q0
        | true =>
          refine iteT ?_
          refine ⟨_, rfl, p, C, dx, _, _, rfl, hp, N.cl, N.a2, bf_teams _ _ _ _ _ _, _, rfl, p2, C, dy, _, _, rfl, hp2, N.cl, N.a2, bf_teams _ _ _ _ _ _, _, _, a3, b3, M.s3, M2.s3, _, rfl, ?_⟩
          rw [c2] at q0 q
          cases c3 : PyData.eqv x.d3 x2.d3 with
          | false =>
            rw [c3] at q0
            exact iteF q0
          | true =>
            refine iteT ?_
            refine ⟨_, rfl, p, C, dx, _, _, rfl, hp, N.cl, N.a3, bf_pots _ _ _ _ _ _, _, rfl, p2, C, dy, _, _, rfl, hp2, N.cl, N.a3, bf_pots _ _ _ _ _ _, _, _, a4, b4, M.s4, M2.s4, _, rfl, ?_⟩
            rw [c3] at q0 q
            cases c4 : PyData.eqv x.d4 x2.d4 with
            | false =>
              rw [c4] at q0
              exact iteF q0
            | true =>
              refine iteT ?_
              refine ⟨_, rfl, p, C, dx, _, _, rfl, hp, N.cl, N.a4, bf_slots _ _ _ _ _ _, _, rfl, p2, C, dy, _, _, rfl, hp2, N.cl, N.a4, bf_slots _ _ _ _ _ _, rfl, _, rfl, ?_⟩
              rw [c4] at q0 q
              have dI : ∀ a b : Int, decide (V.int a = V.int b) = decide (a = b) := fun a b => by simp
              rw [dI]
              cases c5 : decide (x.sl = x2.sl) with
              | false =>
                rw [c5] at q0
                exact iteF q0
              | true =>
                rw [c5] at q
                refine iteT ?_
                have no : ∀ {m : Str} {v1 v2 v3 v4 : V} {sl : Int} {tl : Addr}, (m == ("palette" : Str)) = false → (m == ("kinds" : Str)) = false → (m == ("teams" : Str)) = false → (m == ("pots" : Str)) = false → (m == ("slots" : Str)) = false → (m == ("told" : Str)) = false → (bkF v1 v2 v3 v4 sl tl).lookup m = none := fun a b c d e f => bk_no a b c d e f
                refine ⟨_, rfl, p, dx, _, rfl, hp, no (by decide +kernel) (by decide +kernel) (by decide +kernel) (by decide +kernel) (by decide +kernel) (by decide +kernel), p, tl, _, _, _, _, _, rs, rfl, B1, M.l, fun Ha R us sa nR hR dR => ?_⟩
                refine ⟨_, rfl, p2, dy, _, rfl, sa _ _ hp2, no (by decide +kernel) (by decide +kernel) (by decide +kernel) (by decide +kernel) (by decide +kernel) (by decide +kernel), p2, tl2, _, _, _, _, _, ss, rfl, B2.same sa, M2.l, fun Hb R2 us2 sb nR2 hR2 dR2 => ?_⟩
                exact ⟨_, _, .lst (SqL.of (sb _ _ hR)) (dpAll_same sb dR), .lst (SqL.of hR2) dR2, M.se, M2.se, q _ (sa.trans sb)⟩
    · exact ⟨_, rfl, y, t, false, rfl, ty, kt, _, rfl, iteF q⟩

end
end Pot

namespace Pot
open PySem PySem.Spec PyProof.Rows L2
section
variable {P : Program} {w : World} {K : PySem.W.Frag} {mg : Str → Option Value} {base : Heap}
/-! ### the law's own row of turns -/
/-- a turn: number, hour, deed (none where it strikes), whether it's a new one -/
structure Turn where
  n : Int
  h : Int
  d : Option Deed
  new : Bool
def odD : Option Deed → PyData
  | none => .none
  | some d => dD d
def tuD (t : Turn) : PyData := .tuple [.int t.n, .int t.h, odD t.d, .bool t.new]
def rowOf (t : Turn) : Row := (t.n, t.d.map fun d => (t.h, d))
theorem noL_od (d : Option Deed) : noLAll.noL (odD d) := by
  cases d with
  | none => exact trivial
  | some d => exact noL_dD d
theorem noL_tu (t : Turn) : noLAll.noL (tuD t) := ⟨trivial, trivial, noL_od t.d, trivial, trivial⟩
abbrev HRow := Int × Row
def putT (l : List HRow) (r : HRow) : List HRow := if l.any (fun x => decide (x.2.1 = r.2.1)) = true then l.map (fun x => if x.2.1 = r.2.1 then r else x) else l ++ [r]
theorem putT_R (l : List HRow) (r : HRow) : (putT l r).map (·.2) = putR (l.map (·.2)) r.2 := by
  unfold putT putR
  rw [List.any_map]
  by_cases c : (l.any fun x => decide (x.2.1 = r.2.1)) = true
  · rw [if_pos c, if_pos (by simpa [Function.comp] using c), List.map_map, List.map_map]
    refine List.map_congr_left fun x _ => ?_
    simp only [Function.comp]
    split <;> rfl
  · rw [if_neg c, if_neg (by simpa [Function.comp] using c), List.map_append]
    rfl
def gT : HRow → PyData
  | (h, (n, none)) => .tuple [.int h, .int n, .none]
  | (_, (n, some e)) => .tuple [.int e.1, .int n, dD e.2]
theorem noL_gT (r : HRow) : noLAll.noL (gT r) := by
  obtain ⟨h, n, o⟩ := r
  cases o with
  | none => exact ⟨trivial, trivial, trivial, trivial⟩
  | some e => exact ⟨trivial, trivial, noL_dD e.2, trivial⟩
theorem gT_turn (t : Turn) : gT (t.h, rowOf t) = .tuple [.int t.h, .int t.n, odD t.d] := by
  obtain ⟨n, h, d, b⟩ := t
  cases d <;> rfl
def KvT (K : PySem.W.Frag) (g : HRow → PyData) (H : Hp) (kv : List (Key × V)) (l : List HRow) : Prop := kv.map Prod.fst = l.map (fun r => (Sum.inl r.2.1 : Key)) ∧ DpAll K H (kv.map Prod.snd) (l.map g)
section
variable {g : HRow → PyData} {H H' : Hp} {kv : List (Key × V)} {l : List HRow}
theorem KvT.len (h : KvT K g H kv l) : kv.length = l.length := by
  have := congrArg List.length h.1
  simpa using this
theorem KvT.same (h : KvT K g H kv l) (s : Same H H') : KvT K g H' kv l := ⟨h.1, dpAll_same s h.2⟩
theorem KvT.sm {S : List Addr} (h : KvT K g H kv l) (ng : ∀ r, noLAll.noL (g r)) (s : Sm S H H') (nt : NT S H) : KvT K g H' kv l := ⟨h.1, dpAll_nt h.2 (noL_map (f := g) ng l) s nt⟩
theorem kvt_any (n : Int) : ∀ {kv : List (Key × V)} {l : List HRow}, kv.map Prod.fst = l.map (fun r => (Sum.inl r.2.1 : Key)) → (kv.any fun kv => decide (kv.1 = Sum.inl n)) = l.any fun x => decide (x.2.1 = n)
  | [], [], _ => rfl
  | [], _ :: _, e => by cases e
  | _ :: _, [], e => by cases e
  | a :: r, b :: m, e => by
    obtain ⟨e1, e2⟩ := List.cons.inj e
    have e1 : a.1 = Sum.inl b.2.1 := e1
    rw [List.any_cons, List.any_cons, kvt_any n e2, e1]
    have : decide ((Sum.inl b.2.1 : Key) = Sum.inl n) = decide (b.2.1 = n) := by
      by_cases c : b.2.1 = n
      · rw [c, decide_eq_true rfl, decide_eq_true rfl]
      · rw [decide_eq_false c, decide_eq_false fun z => c (Sum.inl.inj z)]
    rw [this]
theorem kvt_map {v : V} {r0 : HRow} (dv : Dp K H v (g r0)) : ∀ {kv : List (Key × V)} {l : List HRow}, kv.map Prod.fst = l.map (fun r => (Sum.inl r.2.1 : Key)) → DpAll K H (kv.map Prod.snd) (l.map g) →
    DpAll K H ((kv.map fun e => if e.1 = Sum.inl r0.2.1 then (e.1, v) else e).map Prod.snd) ((l.map fun x => if x.2.1 = r0.2.1 then r0 else x).map g)
  | [], [], _, _ => .nil
  | [], _ :: _, e, _ => by cases e
  | _ :: _, [], e, _ => by cases e
  | a :: r, b :: m, e, d => by
    obtain ⟨e1, e2⟩ := List.cons.inj e
    have e1 : a.1 = Sum.inl b.2.1 := e1
    cases d with
    | cons h t =>
      refine .cons ?_ (kvt_map dv e2 t)
      by_cases c : b.2.1 = r0.2.1
      · have c2 : a.1 = Sum.inl r0.2.1 := by rw [e1, c]
        simp only [c, c2, if_true]
        exact dv
      · have c2 : ¬ a.1 = Sum.inl r0.2.1 := fun z => c (Sum.inl.inj (e1.symm.trans z))
        simp only [c, c2, if_false]
        exact h
theorem KvT.put {v : V} {r : HRow} (h : KvT K g H kv l) (dv : Dp K H v (g r)) : KvT K g H (putK kv (.inl r.2.1) v) (putT l r) := by
  obtain ⟨h1, h2⟩ := h
  unfold putK putT
  rw [kvt_any r.2.1 h1]
  by_cases c : (l.any fun x => decide (x.2.1 = r.2.1)) = true
  · rw [if_pos c, if_pos c]
    refine ⟨?_, kvt_map dv h1 h2⟩
    rw [List.map_map, List.map_map]
    have e1 : kv.map (Prod.fst ∘ fun e => if e.1 = Sum.inl r.2.1 then (e.1, v) else e) = kv.map Prod.fst := List.map_congr_left fun e _ => by
      simp only [Function.comp]
      split <;> rfl
    have e2 : l.map ((fun x : HRow => (Sum.inl x.2.1 : Key)) ∘ fun x => if x.2.1 = r.2.1 then r else x) = l.map fun x => (Sum.inl x.2.1 : Key) := List.map_congr_left fun x _ => by
      simp only [Function.comp]
      split
      · next z => rw [z]
      · rfl
    rw [e1, e2, h1]
  · rw [if_neg c, if_neg c]
    refine ⟨by rw [List.map_append, List.map_append, h1]; rfl, ?_⟩
    rw [List.map_append, List.map_append]
    exact dpAll_app' h2 (.cons dv .nil)
theorem KvT.at_ {j : Nat} {kx : Key} {v : V} (h : KvT K g H kv l) (e : kv[j]? = some (kx, v)) : ∃ r, l[j]? = some r ∧ kx = .inl r.2.1 ∧ Dp K H v (g r) := by
  obtain ⟨r, e1, d⟩ := dpAll_get h.2 (j := j) (v := v) (by rw [List.getElem?_map, e]; rfl)
  refine ⟨r, e1, ?_, d⟩
  have := congrArg (fun x : List Key => x[j]?) h.1
  rw [List.getElem?_map, List.getElem?_map, e, e1] at this
  exact Option.some.inj this
end

def lastT (ts : List Turn) : List HRow := (ts.map fun t => (t.h, rowOf t)).foldl putT []
theorem lastT_take {ts : List Turn} {i : Nat} {t : Turn} (e : ts[i]? = some t) : lastT (ts.take (i + 1)) = putT (lastT (ts.take i)) (t.h, rowOf t) := by
  unfold lastT
  rw [List.take_add_one, e, List.map_append, List.foldl_append]
  rfl
theorem lastT_R (ts : List Turn) : (lastT ts).map (·.2) = lastF (ts.map rowOf) := by
  unfold lastT lastF
  have go : ∀ (ts : List Turn) (l : List HRow), ((ts.map fun t => (t.h, rowOf t)).foldl putT l).map (·.2) = (ts.map rowOf).foldl putR (l.map (·.2)) := fun ts => by
    induction ts with
    | nil => exact fun _ => rfl
    | cons t m ih =>
      intro l
      rw [List.map_cons, List.foldl_cons, ih, putT_R, List.map_cons, List.foldl_cons]
  exact go ts []
theorem lastT_le (ts : List Turn) : (lastT ts).length ≤ ts.length := by
  have h := lastF_le (ts.map rowOf)
  rw [← lastT_R, List.length_map, List.length_map] at h
  exact h
theorem tu_parts {H : Hp} {v : V} {t : Turn} (d : Dp K H v (tuD t)) : ∃ (a : Addr) (z : V), v = .ref a ∧ SqT K H a [.int t.n, .int t.h, z, .bl t.new] ∧ Dp K H z (odD t.d) := by
  obtain ⟨a, xs, rfl, ha, d⟩ := dp_tup d
  cases d with
  | cons h t =>
    cases h
    cases t with
    | cons h2 t2 =>
      cases h2
      cases t2 with
      | cons h3 t3 =>
        cases t3 with
        | cons h4 t4 =>
          cases h4
          cases t4
          exact ⟨a, _, rfl, ha, h3⟩
theorem odD_none {H : Hp} {v : V} {d : Option Deed} (h : Dp K H v (odD d)) : (!decide (v = V.non)) = d.isSome := by
  cases d with
  | none =>
    cases h
    rfl
  | some e =>
    obtain ⟨a, rfl⟩ := dp_dD (d := e) h
    rfl
theorem gT_parts {H : Hp} {v : V} {r : HRow} (d : Dp K H v (gT r)) : ∃ (a : Addr) (x z : V), v = .ref a ∧ SqT K H a [x, .int r.2.1, z] ∧ (!decide (z = V.non)) = r.2.2.isSome ∧ ∀ e, r.2.2 = some e → Dp K H v (entD (e.1, r.2.1, e.2)) := by
  obtain ⟨h, n, o⟩ := r
  cases o with
  | none =>
    obtain ⟨a, xs, rfl, ha, d⟩ := dp_tup d
    cases d with
    | cons h t =>
      cases t with
      | cons h2 t2 =>
        cases h2
        cases t2 with
        | cons h3 t3 =>
          cases h3
          cases t3
          exact ⟨a, _, _, rfl, ha, rfl, fun e z => by cases z⟩
  | some e =>
    have d0 := d
    obtain ⟨a, xs, rfl, ha, d⟩ := dp_tup d
    cases d with
    | cons h t =>
      cases t with
      | cons h2 t2 =>
        cases h2
        cases t2 with
        | cons h3 t3 =>
          cases t3
          refine ⟨a, _, _, rfl, ha, ?_, fun e z => by cases z; exact d0⟩
          obtain ⟨b, rfl⟩ := dp_dD (d := e.2) h3
          rfl

theorem takes_never {X : Cx} : Takes X (fun _ _ _ _ => False) := fun u s' x => by
  obtain ⟨_, _, _, _, _, _, _, _, _, _, _, _, _, _, _, _, q⟩ := x
  exact q.elim
theorem gd_nm {z : Str} (h : Nm z) (m : Nat) : gd m (.str z) := ⟨Nat.le_trans h.1.1 (by decide), fun c hc => by have := h.1.2 c hc; omega⟩
theorem str_gd {x : Str} (h : x.length ≤ 2000 ∧ ∀ c ∈ x.cps.toList, c < 1114112) (m : Nat) : gd m (.str x) := h
theorem gd_dD {d : Deed} (h : DeedOk d) : ∃ m, gd m (dD d) := by
  cases d with
  | fill p c => exact ⟨0, ⟨by decide, by decide⟩, gd_nm h.1 _, gd_nm h.2 _, trivial⟩
  | gath t p k m => exact ⟨m.natAbs, ⟨by decide, by decide⟩, gd_nm h.1 _, gd_nm h.2.1 _, gd_nm h.2.2.1 _, Nat.le_refl _, trivial⟩
  | wash p x => exact ⟨x.natAbs, ⟨by decide, by decide⟩, gd_nm h.1 _, Nat.le_refl _, trivial⟩
  | empt p => exact ⟨0, ⟨by decide, by decide⟩, gd_nm h _, trivial⟩
  | brk p => exact ⟨0, ⟨by decide, by decide⟩, gd_nm h _, trivial⟩
  | new p x => exact ⟨x.natAbs, ⟨by decide, by decide⟩, gd_nm h.1 _, Nat.le_refl _, trivial⟩
theorem gd_tup4 {a b c d : PyData} (h1 : ∃ m, gd m a) (h2 : ∃ m, gd m b) (h3 : ∃ m, gd m c) (h4 : ∃ m, gd m d) : ∃ m, gdAll m [a, b, c, d] := by
  obtain ⟨m1, h1⟩ := h1
  obtain ⟨m2, h2⟩ := h2
  obtain ⟨m3, h3⟩ := h3
  obtain ⟨m4, h4⟩ := h4
  have l : ∀ x, x = m1 ∨ x = m2 ∨ x = m3 ∨ x = m4 → x ≤ m1 + m2 + m3 + m4 := by omega
  exact ⟨m1 + m2 + m3 + m4, gd_mono (l _ (by simp)) _ h1, gd_mono (l _ (by simp)) _ h2, gd_mono (l _ (by simp)) _ h3, gd_mono (l _ (by simp)) _ h4, trivial⟩
theorem gd_int (i : Int) : ∃ m, gd m (.int i) := ⟨i.natAbs, Nat.le_refl _⟩
theorem gd_tu {t : Turn} (h : ∀ d, t.d = some d → DeedOk d) : ∃ m, gd m (tuD t) := by
  have hd : ∃ m, gd m (odD t.d) := by
    cases e : t.d with
    | none => exact ⟨0, (trivial : gd 0 .none)⟩
    | some d => exact gd_dD (h d e)
  exact gd_tup4 (gd_int _) (gd_int _) hd ⟨0, (trivial : gd 0 (.bool t.new))⟩
theorem gd_en {e : Int × Int × Deed} (h : DeedOk e.2.2) : ∃ m, gd m (entD e) := by
  obtain ⟨m, hm⟩ := gd_tup4 (d := .none) (gd_int e.1) (gd_int e.2.1) (gd_dD h) ⟨0, (trivial : gd 0 .none)⟩
  exact ⟨m, hm.1, hm.2.1, hm.2.2.1, trivial⟩
theorem gd_all_ex : ∀ {ds : List PyData}, (∀ d ∈ ds, ∃ m, gd m d) → ∃ m, gdAll m ds
  | [], _ => ⟨0, trivial⟩
  | d :: r, h => by
    obtain ⟨m, hm⟩ := h d List.mem_cons_self
    obtain ⟨m2, hm2⟩ := gd_all_ex fun d hd => h d (List.mem_cons_of_mem _ hd)
    exact ⟨max m m2, gd_mono (Nat.le_max_left _ _) _ hm, gdAll_iff.mpr fun d hd => gd_mono (Nat.le_max_right _ _) _ (gdAll_iff.mp hm2 d hd)⟩

theorem tu_depth (t : Turn) : (tuD t).depth ≤ 11 := by
  have : (odD t.d).depth ≤ 10 := by
    cases t.d with
    | none => decide
    | some d => exact dD_depth d
  simp only [tuD, PyData.depth, PyData.depthAll]
  omega
theorem depthAll_le {n : Nat} : ∀ {ds : List PyData}, (∀ d ∈ ds, d.depth ≤ n) → PyData.depthAll ds ≤ n
  | [], _ => Nat.zero_le _
  | d :: r, h => by
    have h1 := h d List.mem_cons_self
    have h2 := depthAll_le fun d hd => h d (List.mem_cons_of_mem _ hd)
    simp only [PyData.depthAll]
    omega
theorem tu_list_depth (ts : List Turn) : (PyData.list (ts.map tuD)).depth ≤ 64 := by
  have := depthAll_le (n := 11) (ds := ts.map tuD) fun d hd => by
    obtain ⟨t, _, rfl⟩ := List.mem_map.mp hd
    exact tu_depth t
  simp only [PyData.depth]
  omega

/-- a Book's methods -/
structure BkC (P : Program) (w : World) (K : PySem.W.Frag) (mg : Str → Option Value) (base : Heap) (C CS : Addr) : Prop where
  k : BkK K mg C
  make : OMak P w K mg base 1 "Book" C (spBI K C) []
  ent : OMet P w K mg base 1 C "entries" (spBN K C) []
  enter : OMet P w K mg base 1 C "enter" (spBE K C) []
  put : OMetX P w K mg base 4 C "put_right" (spBP K C CS) []
  strike : OMetX P w K mg base 4 C "strike" (spBS K C CS) []
  undo : OMet P w K mg base 1 C "undo" (spBU K C) []
  times : OMet P w K mg base 1 C "told_times" (spBT K C) []
  as_told : OMet P w K mg base 3 C "as_told" (spBA K C) []
  twin : OMet P w K mg base 4 C "twin" (spBW K C) []

/-- one deed of a Book that isn't refused, and of a row of turns -/
inductive Step (rs : List Row) (ts : List Turn) : List Row → List Turn → Prop where
  | pop : Step rs ts rs.dropLast ts.dropLast
  | add (t : Turn) : (t.new = true ∧ Next rs t.n ∨ t.new = false ∧ stN rs t.n) → (∀ d, t.d = some d → DeedOk d) → 0 ≤ t.h → t.h ≤ 99 → Step rs ts (rs ++ [rowOf t]) (ts ++ [t])
def spTO (K : PySem.W.Frag) (C : Addr) : Sp := fun vs H Q _ => ∃ (b p tl TL : Addr) (hv v1 v2 v3 v4 : V) (h : Hall) (sl : Int) (us : List V) (rs : List Row) (ts : List Turn) (m : Nat), vs = [.ref b, hv, .ref p, .ref TL] ∧ Bp H b m ∧ m + 5000 < 2 ^ 40 ∧ Dp K H hv (hallD h) ∧ HallOk h ∧ BkAt K C H p v1 v2 v3 v4 sl tl rs ∧ H TL = some (.lst us) ∧ DpAll K H us (ts.map tuD) ∧ b ≠ tl ∧ b ≠ TL ∧ tl ≠ TL ∧ rs.length ≤ 900 ∧ ts.length ≤ 900 ∧ (∀ r ∈ rs, 0 ≤ r.1) ∧ (∀ t ∈ ts, ∀ d, t.d = some d → DeedOk d) ∧
  ∀ (H' : Hp) (us' : List V) (rs' : List Row) (ts' : List Turn), Bp H' b (m + 60) → Sm [b, tl, TL] H H' → BkAt K C H' p v1 v2 v3 v4 sl tl rs' → H' TL = some (.lst us') → DpAll K H' us' (ts'.map tuD) → Step rs ts rs' ts' → Q .non H'
abbrev s__law_told_once : Stmt := topS 15
def n__law_told_once : List Str := ["_law_box", "_law_hall", "_law_book", "_law_turns", "_law_known", "_law_way", "_law_hour", "_law_deed", "_law_row"]
theorem sc__law_told_once : FnScope n__law_told_once ["_law_box", "_law_hall", "_law_book", "_law_turns"] (defScope s__law_told_once) := ⟨rfl, rfl, rfl, by decide +kernel, rfl, by decide +kernel, by decide +kernel⟩
theorem ok_to {C CS f : Addr} {fd : FuncData} {k : Nat} (F : Fun K "_law_told_once" "_law_told_once" s__law_told_once f fd) (T : Txt mg) (O : BkC P w K mg base C CS) (c__law_take : Cl P w K mg base 1 "_law_take" spTake) (c__law_pick : Cl P w K mg base 2 "_law_pick" (spPick K)) (c__law_a_deed : Cl P w K mg base 3 "_law_a_deed" (spADeed K)) : FnOk P w K mg base CX0 (k + 7) f fd ["_law_box", "_law_hall", "_law_book", "_law_turns"] (spTO K C) := by
  refine F.ok sc__law_told_once (fun vs H Q E h => ?_) (fun cdv A outer s H vs Q E hr h => ?_)
  · obtain ⟨b, p, tl, TL, hv, v1, v2, v3, v4, h, sl, us, rs, ts, m, rfl, _⟩ := h
    rfl
  · obtain ⟨b, p, tl, TL, hv, v1, v2, v3, v4, h, sl, us, rs, ts, m, rfl, B, hm, dh, okh, M, hT, dT, bt, bT, tT, lr, lt, nn, dk, q⟩ := h
    have nd := sc__law_told_once.nd
    have hu := hu_of hr
    have hu64 := hr.units
    have m_Book_strike := O.strike
    have m_Book_put_right := O.put
    have m_Book_undo := O.undo
    have m_Book_enter := O.enter
    have m_Book_entries := O.ent
    let CBook := C
    /- 0 _law_box, 1 _law_hall, 2 _law_book, 3 _law_turns, 4 _law_known, 5 _law_way, 6 _law_hour, 7 _law_deed, 8 _law_row -/
    refine ⟨_, (pss_cons (ps_par (i := 4) (j := 5) rfl nd rfl rfl (by decide) rfl rfl (pa_cons (pe_lc (own := [("_law_row", 8)]) rfl nd (ki_list (K := K) (pe_omt0 m_Book_entries hr (by omega) (pv 2))) (blkOk_by (N := n__law_told_once) (sc := defScope s__law_told_once) (by decide +kernel)) (fun _ _ _ _ _ => (pg_name (i := 8) nd rfl (.inl rfl))) (fun _ _ _ _ _ => pts_nil) (fun _ _ _ _ _ => (pe_ix (kx_tup (K := K)) (pv 8) pe_int (fun _ _ => rfl)))) (pa_cons (pe_cl c__law_take hr (by omega) (by rfl) (pa_cons (pv 0) (pa_cons pe_int pa_nil))) pa_nil)) rfl)
      (pss_cons (ps_par (i := 6) (j := 7) rfl nd rfl rfl (by decide) rfl rfl (pa_cons (pe_cl c__law_take hr (by omega) (by rfl) (pa_cons (pv 0) (pa_cons pe_int pa_nil))) (pa_cons (pe_cl c__law_a_deed hr (by omega) (by rfl) (pa_cons (pv 0) (pa_cons (pv 1) pa_nil))) pa_nil)) rfl)
      (pss_one (ps_if (pt_cmpR op_eq (pv 5) pe_int (nomark _))
          (pss_cons (ps_expr (pe_omt0 m_Book_undo hr (by omega) (pv 2)))
          (pss_one (ps_if (pt_cmpR (ko_ne (K := K) hu64) (pv 3) (pe_lst pa_nil) (nomark _))
              (pss_one (ps_expr (pe_bm0 PySem.F.plainAttrs_list PySem.F.slot_list_pop PySem.F.type_list_pop mt_pop (pv 3))))
              pss_nil)))
          (pss_one (ps_if ((pw_and (pt_cmpR op_eq (pv 5) pe_int (nomark _)) (pw_and1 (pt_cmpR (ko_ne (K := K) hu64) (pv 4) (pe_lst pa_nil) (nomark _))))).pt
              (pss_cons (ps_expr (pe_bm PySem.F.plainAttrs_list PySem.F.slot_list_append PySem.F.type_list_append mt_append (pv 3) (pa_cons (pe_tup (pa_cons (pe_cl c__law_pick hr (by omega) (by rfl) (pa_cons (pv 0) (pa_cons (pv 4) pa_nil))) (pa_cons pe_int (pa_cons pe_non (pa_cons pe_bl pa_nil))))) pa_nil)))
              (pss_one (ps_expr (pe_omx m_Book_strike hr (by omega) takes_never (pv 2) (pa_cons (pe_ix (kx_tup (K := K)) (pe_ix (kx_list (K := K)) (pv 3) (pe_un un_neg pe_int) (fun _ _ => rfl)) pe_int (fun _ _ => rfl)) pa_nil)))))
              (pss_one (ps_if ((pw_and (pt_cmpR op_eq (pv 5) pe_int (nomark _)) (pw_and1 (pt_cmpR (ko_ne (K := K) hu64) (pv 4) (pe_lst pa_nil) (nomark _))))).pt
                  (pss_cons (ps_expr (pe_bm PySem.F.plainAttrs_list PySem.F.slot_list_append PySem.F.type_list_append mt_append (pv 3) (pa_cons (pe_tup (pa_cons (pe_cl c__law_pick hr (by omega) (by rfl) (pa_cons (pv 0) (pa_cons (pv 4) pa_nil))) (pa_cons (pv 6) (pa_cons (pv 7) (pa_cons pe_bl pa_nil))))) pa_nil)))
                  (pss_one (ps_expr (pe_omx m_Book_put_right hr (by omega) takes_never (pv 2) (pa_cons (pe_ix (kx_tup (K := K)) (pe_ix (kx_list (K := K)) (pv 3) (pe_un un_neg pe_int) (fun _ _ => rfl)) pe_int (fun _ _ => rfl)) (pa_cons (pv 7) (pa_cons (pv 6) pa_nil)))))))
                  (pss_one (ps_expr (pe_bm PySem.F.plainAttrs_list PySem.F.slot_list_append PySem.F.type_list_append mt_append (pv 3) (pa_cons (pe_tup (pa_cons (pe_omt m_Book_enter hr (by omega) (pv 2) (pa_cons (pv 7) (pa_cons (pv 6) pa_nil))) (pa_cons (pv 6) (pa_cons (pv 7) (pa_cons pe_bl pa_nil))))) pa_nil)))))))))))), ?_⟩
    obtain ⟨⟨dxp, hp⟩, ls, hl, dl⟩ := M
    have pb : p ≠ b := fun e => by
      obtain ⟨_, _, _, hb, _⟩ := B
      rw [e, hb] at hp; cases hp
    have lrs : rs.length ≤ 1000 := by omega
    have ll : ls.length = rs.length := dpAll_map_len dl
    have lu : us.length = ts.length := dpAll_map_len dT
    have no : ∀ {m : Str}, (m == ("palette" : Str)) = false → (m == ("kinds" : Str)) = false → (m == ("teams" : Str)) = false → (m == ("pots" : Str)) = false → (m == ("slots" : Str)) = false → (m == ("told" : Str)) = false → (bkF v1 v2 v3 v4 sl tl).lookup m = none := fun a b c d e f => bk_no a b c d e f
    have w : Kps K H H b [(p, .ins C dxp (bkF v1 v2 v3 v4 sl tl)), (tl, .lst ls), (TL, .lst us)] [(ls, rs.map rwD), (us, ts.map tuD), ([hv], [hallD h])] m := ⟨B, Same.refl _, fun e he => by
      simp only [List.mem_cons, List.not_mem_nil, or_false] at he
      rcases he with rfl | rfl | rfl
      · exact ⟨pb, hp⟩
      · exact ⟨bt.symm, hl⟩
      · exact ⟨bT.symm, hT⟩, fun e he => by
      simp only [List.mem_cons, List.not_mem_nil, or_false] at he
      rcases he with rfl | rfl | rfl
      · exact ⟨noL_map (f := rwD) noL_rw rs, dl⟩
      · exact ⟨noL_map (f := tuD) noL_tu ts, dT⟩
      · exact ⟨⟨noL_hall h, trivial⟩, .cons dh .nil⟩⟩
    have bko : ∀ {Hx : Hp} {raw : List (Addr × HO)} {kept : List (List V × List PyData)} {m' : Nat}, Kps K H Hx b raw kept m' → (p, HO.ins C dxp (bkF v1 v2 v3 v4 sl tl)) ∈ raw → (tl, HO.lst ls) ∈ raw → (ls, rs.map rwD) ∈ kept → BkAt K C Hx p v1 v2 v3 v4 sl tl rs := fun w m1 m2 m3 => ⟨⟨dxp, (w.rw _ m1).2⟩, ls, (w.rw _ m2).2, (w.kp _ m3).2⟩
    refine ⟨_, rfl, p, dxp, _, rfl, hp, no (by decide +kernel) (by decide +kernel) (by decide +kernel) (by decide +kernel) (by decide +kernel) (by decide +kernel), p, tl, v1, v2, v3, v4, sl, _, rfl, bko w (by simp) (by simp) (by simp), lrs, fun H1 R us1 s1 nR hR dR => ?_⟩
    rw [show entsD rs = (entS (lastF rs)).map entD from entsL_eq _] at dR
    have lw : us1.length = (entS (lastF rs)).length := dpAll_map_len dR
    have le : (entS (lastF rs)).length ≤ 1000 := by rw [entS_len]; exact Nat.le_trans (Nat.le_trans (entF_len _) (lastF_le rs)) lrs
    have w := w.same s1
    refine ⟨R, rfl, ⟨_, SqL.of hR⟩, fun X nX => ?_⟩
    refine lc_it (walk_list (xs := us1)) (fun j Hx => Same H1 Hx ∧ Hx X = some (.lst ((((entS (lastF rs)).take j).map fun e => e.2.1).map V.int))) ⟨same_upd nX, upd_same⟩ (fun j Hx _ h => SqL.of (h.1 _ _ hR)) ?_ ?_
    · rintro i y Hb Hc hi ⟨sx, hX⟩ ⟨rfl, gy⟩
      obtain ⟨e, ge, de⟩ := dpAll_get dR gy
      obtain ⟨u, us3, rfl, hu1, d3⟩ := dp_tup (dp_same sx de)
      obtain ⟨y3, rfl⟩ := ent_row d3
      refine ⟨rfl, tYes_at ?_⟩
      rw [if_pos rfl]
      refine ⟨_, rfl, u, _, 1, _, rfl, rfl, hu1, rfl, _, hX, ?_, same_put sx nX, ?_⟩
      · rw [List.length_map, List.length_map, List.length_take, sizeLine_eq]; omega
      · rw [upd_same, List.take_add_one, ge, List.map_append, List.map_append]; rfl
    rintro H2 ⟨s2, hX⟩
    rw [lw, List.take_length] at hX
    have iff : ∀ n, n ∈ (entS (lastF rs)).map (fun e => e.2.1) ↔ stN rs n := fun n => ⟨fun h => by
      obtain ⟨e, he, rfl⟩ := List.mem_map.mp h
      exact ⟨e, mem_entS.mp he, rfl⟩, fun ⟨e, he, z⟩ => List.mem_map.mpr ⟨e, mem_entS.mpr he, z⟩⟩
    have Xb : X ≠ b := w.B.ne nX
    obtain ⟨ns, ens⟩ : ∃ ns : List Int, ns = (entS (lastF rs)).map fun e => e.2.1 := ⟨_, rfl⟩
    have lns : ns.length ≤ 1000 := by rw [ens, List.length_map]; exact le
    rw [← ens] at hX iff
    have w := (w.same s2).raw1 Xb hX
    clear s1 s2 hR dR nR nX hX hp hl dl hT dT dh B
    refine ⟨_, rfl, b, 8, m, rfl, by decide, by decide, w.B, by omega, fun H3 way w0 w8 B3 s3 => ⟨_, _, rfl, ?_⟩⟩
    have w := w.take s3 B3
    simp only [List.set, L2.start]
    refine ⟨_, rfl, b, 99, m + 1, rfl, by decide, by decide, w.B, by omega, fun H4 hour h0 h9 B4 s4 => ?_⟩
    have w := w.take s4 B4
    have dh : Dp K H4 hv (hallD h) := by
      have := (w.kp ([hv], [hallD h]) (by simp)).2
      cases this with
      | cons c _ => exact c
    refine ⟨_, rfl, _, rfl, b, m + 2, hv, h, rfl, w.B, by omega, dh, okh, fun H5 x d B5 s5 dx okd => ⟨_, _, rfl, ?_⟩⟩
    have w := (w.take s5 B5).kept1 (us := [x]) (ds := [dD d]) ⟨noL_dD d, trivial⟩ (.cons dx .nil)
    clear s3 s4 s5 B3 B4 B5 dh dx
    simp only [List.set]
    have w : Kps K H H5 b [(X, HO.lst (ns.map V.int)), (p, HO.ins C dxp (bkF v1 v2 v3 v4 sl tl)), (tl, HO.lst ls), (TL, HO.lst us)] [([x], [dD d]), (ls, rs.map rwD), (us, ts.map tuD), ([hv], [hallD h])] (m + 42) := w
    have ptl : p ≠ tl := fun e => by
      have h1 := (w.rw (p, HO.ins C dxp (bkF v1 v2 v3 v4 sl tl)) (by simp)).2
      have h2 := (w.rw (tl, HO.lst ls) (by simp)).2
      rw [show (p, HO.ins C dxp (bkF v1 v2 v3 v4 sl tl)).1 = tl from e, h2] at h1; cases h1
    have pTL : p ≠ TL := fun e => by
      have h1 := (w.rw (p, HO.ins C dxp (bkF v1 v2 v3 v4 sl tl)) (by simp)).2
      have h2 := (w.rw (TL, HO.lst us) (by simp)).2
      rw [show (p, HO.ins C dxp (bkF v1 v2 v3 v4 sl tl)).1 = TL from e, h2] at h1; cases h1
    have smb : ∀ {Ha Hb : Hp}, Sm [b] Ha Hb → Sm [b, tl, TL] Ha Hb := fun s => sm_mono (by simp) s
    have smt : ∀ {Ha Hb : Hp}, Sm [tl] Ha Hb → Sm [b, tl, TL] Ha Hb := fun s => sm_mono (by simp) s
    have smT : ∀ {Ha Hb : Hp}, Sm [TL] Ha Hb → Sm [b, tl, TL] Ha Hb := fun s => sm_mono (by simp) s
    -- a turn more behind the Book's own deed
    have enterB : ∀ Hx : Hp, Kps K H Hx b [(X, HO.lst (ns.map V.int)), (p, HO.ins C dxp (bkF v1 v2 v3 v4 sl tl)), (tl, HO.lst ls), (TL, HO.lst us)] [([x], [dD d]), (ls, rs.map rwD), (us, ts.map tuD), ([hv], [hallD h])] (m + 42) → (tDrop (tBM K "list" rAppend (tVar 3) (tCons (tTup (tCons (tMeth C "enter" (spBE K C) [] E0 (tVar 2) (tCons (tVar 7) (tCons (tVar 6) tNil))) (tCons (tVar 6) (tCons (tVar 7) (tCons (tC (V.bl true)) tNil))))) tNil))) { nx := fun _ H' => Q V.non H', rt := Q } [some (.ref b), some hv, some (.ref p), some (.ref TL), some (.ref X), some (.int way), some (.int hour), some x, none] Hx := fun Hx w => by
      have M := bko w (by simp) (by simp) (by simp)
      have hT := (w.rw (TL, HO.lst us) (by simp)).2
      have dT := (w.kp (us, ts.map tuD) (by simp)).2
      have dx : Dp K Hx x (dD d) := by
        have := (w.kp ([x], [dD d]) (by simp)).2
        cases this with
        | cons c _ => exact c
      refine ⟨_, rfl, .inl ⟨rfl, _, SqL.of hT⟩, _, rfl, p, dxp, _, rfl, (w.rw (p, _) (by simp)).2, no (by decide +kernel) (by decide +kernel) (by decide +kernel) (by decide +kernel) (by decide +kernel) (by decide +kernel), _, rfl, _, rfl, ?_⟩
      refine ⟨p, tl, v1, v2, v3, v4, x, sl, hour, rs, d, rfl, M, dx, lrs, nn, fun Ha n nx sa Ma => ?_⟩
      obtain ⟨lsa, hla, _⟩ := M.li
      have hTa := sm1_at sa tT.symm hT
      have dTa := dpAll_nt dT (noL_map (f := tuD) noL_tu ts) sa (lst_nt hla)
      have dxa := dp_nt dx (noL_dD d) sa (lst_nt hla)
      refine ⟨_, rfl, _, rfl, (by show 4 ≤ sizeLine; decide), fun t2 nt2 => ?_⟩
      have st := same_upd (o := .tup [V.int n, V.int hour, x, V.bl true]) nt2
      have hTb := st _ _ hTa
      have dv : Dp K (upd Ha t2 (.tup [V.int n, V.int hour, x, V.bl true])) (.ref t2) (tuD ⟨n, hour, some d, true⟩) := .tup (.inl (.inl upd_same)) (.cons (.int _) (.cons (.int _) (.cons (dp_same st dxa) (.cons (.bl _) .nil))))
      refine ⟨TL, us, _, rfl, rfl, hTb, by rw [lu, sizeLine_eq]; omega, ?_⟩
      have sw := sm_wr (H := upd Ha t2 (.tup [V.int n, V.int hour, x, V.bl true])) (S := [TL]) (p := TL) (o := .lst (us ++ [.ref t2])) (by simp)
      refine q _ (us ++ [.ref t2]) (rs ++ [(n, some (hour, d))]) (ts ++ [⟨n, hour, some d, true⟩]) ?_ ?_ ?_ upd_same ?_ (.add ⟨n, hour, some d, true⟩ (.inl ⟨rfl, nx⟩) (fun d1 e1 => by cases e1; exact okd) h0 (by show hour ≤ 99; omega))
      · obtain ⟨c1, c2, c3, hb, r⟩ := w.B
        exact (Bp.mono (Bp.same (⟨c1, c2, c3, sm1_at sa bt hb, r⟩ : Bp Ha b _) st) (by omega)).wr bT.symm
      · exact (((smb w.fr).trans (smt sa)).trans (sm_of st)).trans (smT sw)
      · exact (Ma.same st).sm sw (by simp [pTL]) (by simp [tT]) (lst_nt hTb)
      · have h1 : DpAll K (upd Ha t2 (.tup [V.int n, V.int hour, x, V.bl true])) (us ++ [.ref t2]) (ts.map tuD ++ [tuD ⟨n, hour, some d, true⟩]) := dpAll_app' (dpAll_same st dTa) (.cons dv .nil)
        have e : ts.map tuD ++ [tuD ⟨n, hour, some d, true⟩] = (ts ++ [(⟨n, hour, some d, true⟩ : Turn)]).map tuD := by rw [List.map_append]; rfl
        rw [e] at h1
        exact dpAll_nt h1 (noL_map (f := tuD) noL_tu _) sw (lst_nt hTb)
    -- whether there are known numbers
    have knownB : ∀ (Hx : Hp) (G : Bool → Hp → Prop), Kps K H Hx b [(X, HO.lst (ns.map V.int)), (p, HO.ins C dxp (bkF v1 v2 v3 v4 sl tl)), (tl, HO.lst ls), (TL, HO.lst us)] [([x], [dD d]), (ls, rs.map rwD), (us, ts.map tuD), ([hv], [hallD h])] (m + 42) → (ns = [] → ∀ Hy, Kps K H Hy b [(X, HO.lst (ns.map V.int)), (p, HO.ins C dxp (bkF v1 v2 v3 v4 sl tl)), (tl, HO.lst ls), (TL, HO.lst us)] [([x], [dD d]), (ls, rs.map rwD), (us, ts.map tuD), ([hv], [hallD h])] (m + 42) → G false Hy) → (ns ≠ [] → ∀ Hy, Kps K H Hy b [(X, HO.lst (ns.map V.int)), (p, HO.ins C dxp (bkF v1 v2 v3 v4 sl tl)), (tl, HO.lst ls), (TL, HO.lst us)] [([x], [dD d]), (ls, rs.map rwD), (us, ts.map tuD), ([hv], [hallD h])] (m + 42) → G true Hy) → (tTest (tOp (rNeD K) (tVar 4) (tLst tNil))) [some (.ref b), some hv, some (.ref p), some (.ref TL), some (.ref X), some (.int way), some (.int hour), some x, none] Hx G := fun Hx G w g0 g1 => by
      refine ⟨_, rfl, Nat.zero_le _, fun L nL => ?_⟩
      have sL := same_upd (o := .lst []) nL
      have hL : upd Hx L (.lst []) L = some (.lst []) := upd_same
      have w := w.same sL
      generalize upd Hx L (.lst []) = Hy at w hL ⊢
      have hX := (w.rw (X, HO.lst (ns.map V.int)) (by simp)).2
      obtain ⟨mg_, hg⟩ := gd_all_ex (ds := ns.map PyData.int) fun dd hd => by
        obtain ⟨n, _, rfl⟩ := List.mem_map.mp hd
        exact gd_int n
      have dep : (PyData.list (ns.map PyData.int)).depth ≤ 64 := by
        have := depthAll_le (n := 0) (ds := ns.map PyData.int) fun d hd => by
          obtain ⟨n, _, rfl⟩ := List.mem_map.mp hd
          exact Nat.le_refl _
        simp only [PyData.depth]
        omega
      have hg : gd mg_ (.list (ns.map PyData.int)) := hg
      refine ⟨.list (ns.map PyData.int), .list [], .lst (SqL.of hX) (dp_ints _), .lst (SqL.of hL) .nil, gd_shaped (m := mg_) hg dep, rfl, _, rfl, ?_⟩
      cases ee : ns with
      | nil => exact g0 ee Hy w
      | cons e0 er => exact g1 (by rw [ee]; exact List.cons_ne_nil _ _) Hy w
    have pickB : ∀ (Hx : Hp) (G : V → Hp → Prop), Kps K H Hx b [(X, HO.lst (ns.map V.int)), (p, HO.ins C dxp (bkF v1 v2 v3 v4 sl tl)), (tl, HO.lst ls), (TL, HO.lst us)] [([x], [dD d]), (ls, rs.map rwD), (us, ts.map tuD), ([hv], [hallD h])] (m + 42) → ns ≠ [] → (∀ n Hy, stN rs n → Kps K H Hy b [(X, HO.lst (ns.map V.int)), (p, HO.ins C dxp (bkF v1 v2 v3 v4 sl tl)), (tl, HO.lst ls), (TL, HO.lst us)] [([x], [dD d]), (ls, rs.map rwD), (us, ts.map tuD), ([hv], [hallD h])] (m + 43) → G (.int n) Hy) → (tCall (spPick K) [] E0 (tCons (tVar 0) (tCons (tVar 4) tNil))) [some (.ref b), some hv, some (.ref p), some (.ref TL), some (.ref X), some (.int way), some (.int hour), some x, none] Hx G := fun Hx G w ne g => by
      refine ⟨_, rfl, _, rfl, b, m + 42, .ref X, rfl, w.B, by omega, .inr (.inl ⟨X, _, rfl, Xb, (w.rw (X, HO.lst (ns.map V.int)) (by simp)).2, ?_, ?_, fun H' i v gi B' s' => ?_⟩)⟩
      · show 0 < (ns.map V.int).length
        rw [List.length_map]; exact List.length_pos_iff.mpr ne
      · show (ns.map V.int).length ≤ 1000
        rw [List.length_map]; exact lns
      · have gi : (ns.map V.int)[i]? = some v := gi
        rw [List.getElem?_map] at gi
        obtain ⟨n, gn, rfl⟩ := Option.map_eq_some_iff.mp gi
        exact g n H' ((iff n).mp (List.mem_of_getElem? gn)) (w.take s' B')
    have base_ : ∀ (Hy : Hp) (n hh : Int) (y : V) (od : Option Deed) (t2 : Addr), Kps K H Hy b [(X, HO.lst (ns.map V.int)), (p, HO.ins C dxp (bkF v1 v2 v3 v4 sl tl)), (tl, HO.lst ls), (TL, HO.lst us)] [([x], [dD d]), (ls, rs.map rwD), (us, ts.map tuD), ([hv], [hallD h])] (m + 43) → Dp K Hy y (odD od) → Hy t2 = none →
        Bp (upd (upd Hy t2 (.tup [V.int n, V.int hh, y, V.bl false])) TL (.lst (us ++ [.ref t2]))) b (m + 60) ∧ Sm [b, tl, TL] H (upd (upd Hy t2 (.tup [V.int n, V.int hh, y, V.bl false])) TL (.lst (us ++ [.ref t2]))) ∧ BkAt K C (upd (upd Hy t2 (.tup [V.int n, V.int hh, y, V.bl false])) TL (.lst (us ++ [.ref t2]))) p v1 v2 v3 v4 sl tl rs ∧ (upd (upd Hy t2 (.tup [V.int n, V.int hh, y, V.bl false])) TL (.lst (us ++ [.ref t2]))) TL = some (.lst (us ++ [.ref t2])) ∧ DpAll K (upd (upd Hy t2 (.tup [V.int n, V.int hh, y, V.bl false])) TL (.lst (us ++ [.ref t2]))) (us ++ [.ref t2]) ((ts ++ [(⟨n, hh, od, false⟩ : Turn)]).map tuD) ∧ (upd (upd Hy t2 (.tup [V.int n, V.int hh, y, V.bl false])) TL (.lst (us ++ [.ref t2]))) t2 = some (.tup [V.int n, V.int hh, y, V.bl false]) ∧ Dp K (upd (upd Hy t2 (.tup [V.int n, V.int hh, y, V.bl false])) TL (.lst (us ++ [.ref t2]))) y (odD od) ∧ (upd Hy t2 (.tup [V.int n, V.int hh, y, V.bl false])) TL = some (.lst us) := fun Hy n hh y od t2 w dy nt2 => by
      have M := bko w (by simp) (by simp) (by simp)
      have hT : Hy TL = some (.lst us) := (w.rw (TL, HO.lst us) (by simp)).2
      have dT : DpAll K Hy us (ts.map tuD) := (w.kp (us, ts.map tuD) (by simp)).2
      have st := same_upd (o := .tup [V.int n, V.int hh, y, V.bl false]) nt2
      have hTb := st _ _ hT
      have dv : Dp K (upd Hy t2 (.tup [V.int n, V.int hh, y, V.bl false])) (.ref t2) (tuD ⟨n, hh, od, false⟩) := .tup (.inl (.inl upd_same)) (.cons (.int _) (.cons (.int _) (.cons (dp_same st dy) (.cons (.bl _) .nil))))
      have sw := sm_wr (H := upd Hy t2 (.tup [V.int n, V.int hh, y, V.bl false])) (S := [TL]) (p := TL) (o := .lst (us ++ [.ref t2])) (by simp)
      have T2 : t2 ≠ TL := fun e => by rw [e, hT] at nt2; cases nt2
      refine ⟨((w.B.same st).mono (by omega)).wr bT.symm, ((smb w.fr).trans (sm_of st)).trans (smT sw), (M.same st).sm sw (by simp [pTL]) (by simp [tT]) (lst_nt hTb), upd_same, ?_, (upd_ne T2).trans upd_same, dp_nt (dp_same st dy) (noL_od od) sw (lst_nt hTb), hTb⟩
      have h1 : DpAll K (upd Hy t2 (.tup [V.int n, V.int hh, y, V.bl false])) (us ++ [.ref t2]) (ts.map tuD ++ [tuD ⟨n, hh, od, false⟩]) := dpAll_app' (dpAll_same st dT) (.cons dv .nil)
      have e : ts.map tuD ++ [tuD ⟨n, hh, od, false⟩] = (ts ++ [(⟨n, hh, od, false⟩ : Turn)]).map tuD := by rw [List.map_append]; rfl
      rw [e] at h1
      exact dpAll_nt h1 (noL_map (f := tuD) noL_tu _) sw (lst_nt hTb)
    -- and behind the Book's own deed
    have endB : ∀ (Hc Hd : Hp) (t2 : Addr) (n hh : Int) (od : Option Deed), Bp Hc b (m + 60) → Sm [b, tl, TL] H Hc → BkAt K C Hc p v1 v2 v3 v4 sl tl rs → Hc TL = some (.lst (us ++ [.ref t2])) → DpAll K Hc (us ++ [.ref t2]) ((ts ++ [(⟨n, hh, od, false⟩ : Turn)]).map tuD) → Sm [tl] Hc Hd → BkAt K C Hd p v1 v2 v3 v4 sl tl (rs ++ [rowOf ⟨n, hh, od, false⟩]) → stN rs n → (∀ d1, od = some d1 → DeedOk d1) → 0 ≤ hh → hh ≤ 99 → Q .non Hd := fun Hc Hd t2 n hh od Bc sc Mc hTc dTc sd Md st ok a1 a2 => by
      obtain ⟨_, hlc, _⟩ := Mc.li
      obtain ⟨c1, c2, c3, hb, r⟩ := Bc
      exact q Hd _ _ _ ⟨c1, c2, c3, sm1_at sd bt hb, r⟩ (sc.trans (smt sd)) Md (sm1_at sd tT.symm hTc) (dpAll_nt dTc (noL_map (f := tuD) noL_tu _) sd (lst_nt hlc)) (.add ⟨n, hh, od, false⟩ (.inr ⟨rfl, st⟩) ok a1 a2)
    have strikeB : ∀ Hx : Hp, Kps K H Hx b [(X, HO.lst (ns.map V.int)), (p, HO.ins C dxp (bkF v1 v2 v3 v4 sl tl)), (tl, HO.lst ls), (TL, HO.lst us)] [([x], [dD d]), (ls, rs.map rwD), (us, ts.map tuD), ([hv], [hallD h])] (m + 42) → ns ≠ [] → (tSeq (tDrop (tBM K "list" rAppend (tVar 3) (tCons (tTup (tCons (tCall (spPick K) [] E0 (tCons (tVar 0) (tCons (tVar 4) tNil))) (tCons (tC (V.int 0)) (tCons (tC V.non) (tCons (tC (V.bl false)) tNil))))) tNil))) (tDrop (tMethX C "strike" (spBS K C CS) [] (WE fun _ _ _ _ => False) (tVar 2) (tCons (tOp (rIxT K) (tOp (rIxL K) (tVar 3) (tUn (rU fun i => V.int (-i)) (tC (V.int 1)))) (tC (V.int 0))) tNil)))) { nx := fun _ H' => Q V.non H', rt := Q } [some (.ref b), some hv, some (.ref p), some (.ref TL), some (.ref X), some (.int way), some (.int hour), some x, none] Hx := fun Hx w ne => by
      have hT := (w.rw (TL, HO.lst us) (by simp)).2
      refine ⟨_, rfl, .inl ⟨rfl, _, SqL.of hT⟩, ?_⟩
      refine pickB Hx _ w ne fun n Hy st w => ?_
      refine ⟨(by show 4 ≤ sizeLine; decide), fun t2 nt2 => ?_⟩
      obtain ⟨Bc, sc, Mc, hTc, dTc, ht2, dyc, hTb⟩ := base_ Hy n 0 .non none t2 w .non nt2
      refine ⟨TL, us, _, rfl, rfl, hTb, by rw [lu, sizeLine_eq]; omega, ?_⟩
      generalize (upd (upd Hy t2 (.tup [V.int n, V.int 0, V.non, V.bl false])) TL (.lst (us ++ [.ref t2]))) = Hc at Bc sc Mc hTc dTc ht2 dyc ⊢
      obtain ⟨dxc, hpc⟩ := Mc.ob
      refine ⟨_, rfl, p, dxc, _, rfl, hpc, no (by decide +kernel) (by decide +kernel) (by decide +kernel) (by decide +kernel) (by decide +kernel) (by decide +kernel), _, rfl, 1, rfl, TL, _, -1, _, rfl, rfl, SqL.of hTc, atI_last _ _, t2, _, 0, _, rfl, rfl, .inl (.inl ht2), rfl, ?_⟩
      exact ⟨p, tl, v1, v2, v3, v4, sl, n, rs, rfl, Mc, lrs, fun _ Hd sd Md => endB Hc Hd t2 n 0 none Bc sc Mc hTc dTc sd Md st (fun d1 e => by cases e) (Int.le_refl _) (by decide), fun z => absurd st z⟩
    have putB : ∀ Hx : Hp, Kps K H Hx b [(X, HO.lst (ns.map V.int)), (p, HO.ins C dxp (bkF v1 v2 v3 v4 sl tl)), (tl, HO.lst ls), (TL, HO.lst us)] [([x], [dD d]), (ls, rs.map rwD), (us, ts.map tuD), ([hv], [hallD h])] (m + 42) → ns ≠ [] → (tSeq (tDrop (tBM K "list" rAppend (tVar 3) (tCons (tTup (tCons (tCall (spPick K) [] E0 (tCons (tVar 0) (tCons (tVar 4) tNil))) (tCons (tVar 6) (tCons (tVar 7) (tCons (tC (V.bl false)) tNil))))) tNil))) (tDrop (tMethX C "put_right" (spBP K C CS) [] (WE fun _ _ _ _ => False) (tVar 2) (tCons (tOp (rIxT K) (tOp (rIxL K) (tVar 3) (tUn (rU fun i => V.int (-i)) (tC (V.int 1)))) (tC (V.int 0))) (tCons (tVar 7) (tCons (tVar 6) tNil)))))) { nx := fun _ H' => Q V.non H', rt := Q } [some (.ref b), some hv, some (.ref p), some (.ref TL), some (.ref X), some (.int way), some (.int hour), some x, none] Hx := fun Hx w ne => by
      have hT := (w.rw (TL, HO.lst us) (by simp)).2
      refine ⟨_, rfl, .inl ⟨rfl, _, SqL.of hT⟩, ?_⟩
      refine pickB Hx _ w ne fun n Hy st w => ?_
      have dx : Dp K Hy x (odD (some d)) := by
        have := (w.kp ([x], [dD d]) (by simp)).2
        cases this with
        | cons c _ => exact c
      refine ⟨_, rfl, _, rfl, (by show 4 ≤ sizeLine; decide), fun t2 nt2 => ?_⟩
      obtain ⟨Bc, sc, Mc, hTc, dTc, ht2, dyc, hTb⟩ := base_ Hy n hour x (some d) t2 w dx nt2
      refine ⟨TL, us, _, rfl, rfl, hTb, by rw [lu, sizeLine_eq]; omega, ?_⟩
      generalize (upd (upd Hy t2 (.tup [V.int n, V.int hour, x, V.bl false])) TL (.lst (us ++ [.ref t2]))) = Hc at Bc sc Mc hTc dTc ht2 dyc ⊢
      obtain ⟨dxc, hpc⟩ := Mc.ob
      refine ⟨_, rfl, p, dxc, _, rfl, hpc, no (by decide +kernel) (by decide +kernel) (by decide +kernel) (by decide +kernel) (by decide +kernel) (by decide +kernel), _, rfl, 1, rfl, TL, _, -1, _, rfl, rfl, SqL.of hTc, atI_last _ _, t2, _, 0, _, rfl, rfl, .inl (.inl ht2), rfl, _, rfl, _, rfl, ?_⟩
      exact ⟨p, tl, v1, v2, v3, v4, x, sl, n, hour, rs, d, rfl, Mc, dyc, lrs, fun _ Hd sd Md => endB Hc Hd t2 n hour (some d) Bc sc Mc hTc dTc sd Md st (fun d1 e => by cases e; exact okd) h0 (by omega), fun z => absurd st z⟩
    refine ⟨_, rfl, rfl, _, rfl, ite2 (fun cw => ?_) (fun cw => ?_)⟩
    · -- undo
      refine seq_mid (fun σ Hx => σ = [some (.ref b), some hv, some (.ref p), some (.ref TL), some (.ref X), some (.int way), some (.int hour), some x, none] ∧ Bp Hx b (m + 60) ∧ Sm [b, tl, TL] H Hx ∧ BkAt K C Hx p v1 v2 v3 v4 sl tl rs.dropLast ∧ Hx TL = some (.lst us) ∧ DpAll K Hx us (ts.map tuD)) (fun N hN => ?_) (fun σ H6 hh => ?_)
      · have M := bko w (by simp) (by simp) (by simp)
        have hT : H5 TL = some (.lst us) := (w.rw (TL, HO.lst us) (by simp)).2
        have dT : DpAll K H5 us (ts.map tuD) := (w.kp (us, ts.map tuD) (by simp)).2
        refine ⟨_, rfl, p, dxp, _, rfl, (w.rw (p, HO.ins C dxp (bkF v1 v2 v3 v4 sl tl)) (by simp)).2, no (by decide +kernel) (by decide +kernel) (by decide +kernel) (by decide +kernel) (by decide +kernel) (by decide +kernel), p, tl, v1, v2, v3, v4, sl, rs, rfl, M, fun e0 => ?_, fun ne H6 s6 M6 => ?_⟩
        · exact hN _ _ ⟨rfl, w.B.mono (by omega), smb w.fr, by rw [e0] at M ⊢; exact M, hT, dT⟩
        · obtain ⟨_, hlc, _⟩ := M.li
          obtain ⟨c1, c2, c3, hb, r⟩ := w.B.mono (show m + 42 ≤ m + 60 by omega)
          exact hN _ _ ⟨rfl, ⟨c1, c2, c3, sm1_at s6 bt hb, r⟩, (smb w.fr).trans (smt s6), M6, sm1_at s6 tT.symm hT, dpAll_nt dT (noL_map (f := tuD) noL_tu _) s6 (lst_nt hlc)⟩
      obtain ⟨rfl, B6, s6, M6, hT6, dT6⟩ := hh
      refine ⟨_, rfl, Nat.zero_le _, fun L nL => ?_⟩
      have sL := same_upd (o := .lst []) nL
      have hL : upd H6 L (.lst []) L = some (.lst []) := upd_same
      have B6 := B6.same sL
      have s6 := s6.trans (sm_of sL)
      have M6 := M6.same sL
      have hT6 := sL _ _ hT6
      have dT6 := dpAll_same sL dT6
      generalize upd H6 L (.lst []) = H7 at B6 s6 M6 hT6 dT6 hL ⊢
      obtain ⟨mg_, hg⟩ := gd_all_ex (ds := ts.map tuD) fun dd hd => by
        obtain ⟨t, ht, rfl⟩ := List.mem_map.mp hd
        exact gd_tu (dk t ht)
      have hg : gd mg_ (.list (ts.map tuD)) := hg
      refine ⟨.list (ts.map tuD), .list [], .lst (SqL.of hT6) dT6, .lst (SqL.of hL) .nil, gd_shaped (m := mg_) hg (tu_list_depth ts), rfl, _, rfl, ?_⟩
      have e : (!PyData.eqv (.list (ts.map tuD)) (.list [])) = !ts.isEmpty := by cases ts <;> rfl
      rw [e]
      refine ite2 (fun c => ?_) (fun c => ?_)
      · have eu : us ≠ [] := fun z => by
          have e : ts = [] := List.eq_nil_of_length_eq_zero (by rw [← lu, z]; rfl)
          rw [e] at c
          cases c
        refine ⟨_, rfl, .inl ⟨rfl, _, SqL.of hT6⟩, TL, us, _, rfl, rfl, hT6, List.getLast?_eq_getElem?.symm.trans (List.getLast?_eq_some_getLast eu), ?_⟩
        have sw := sm_wr (H := H7) (S := [TL]) (p := TL) (o := .lst us.dropLast) (by simp)
        refine q _ us.dropLast rs.dropLast ts.dropLast (B6.wr bT.symm) (s6.trans (smT sw)) (M6.sm sw (by simp [pTL]) (by simp [tT]) (lst_nt hT6)) upd_same ?_ .pop
        have d2 := dpAll_dropLast dT6
        rw [← List.map_dropLast] at d2
        exact dpAll_nt d2 (noL_map (f := tuD) noL_tu _) sw (lst_nt hT6)
      · have e0 : ts = [] := by cases ts with | nil => rfl | cons _ _ => exact absurd rfl c
        have eu : us = [] := List.eq_nil_of_length_eq_zero (by rw [lu, e0]; rfl)
        exact q _ us rs.dropLast ts.dropLast B6 s6 M6 hT6 (by rw [e0] at dT6 ⊢; exact dT6) .pop
    have secondB : ∀ Hx : Hp, Kps K H Hx b [(X, HO.lst (ns.map V.int)), (p, HO.ins C dxp (bkF v1 v2 v3 v4 sl tl)), (tl, HO.lst ls), (TL, HO.lst us)] [([x], [dD d]), (ls, rs.map rwD), (us, ts.map tuD), ([hv], [hallD h])] (m + 42) → tIfS (tAnd (tTest (tOp rEq (tVar 5) (tC (V.int 2)))) (tTest (tOp (rNeD K) (tVar 4) (tLst tNil)))) (tSeq (tDrop (tBM K "list" rAppend (tVar 3) (tCons (tTup (tCons (tCall (spPick K) [] E0 (tCons (tVar 0) (tCons (tVar 4) tNil))) (tCons (tVar 6) (tCons (tVar 7) (tCons (tC (V.bl false)) tNil))))) tNil))) (tDrop (tMethX C "put_right" (spBP K C CS) [] (WE fun _ _ _ _ => False) (tVar 2) (tCons (tOp (rIxT K) (tOp (rIxL K) (tVar 3) (tUn (rU fun i => V.int (-i)) (tC (V.int 1)))) (tC (V.int 0))) (tCons (tVar 7) (tCons (tVar 6) tNil)))))) (tDrop (tBM K "list" rAppend (tVar 3) (tCons (tTup (tCons (tMeth C "enter" (spBE K C) [] E0 (tVar 2) (tCons (tVar 7) (tCons (tVar 6) tNil))) (tCons (tVar 6) (tCons (tVar 7) (tCons (tC (V.bl true)) tNil))))) tNil))) { nx := fun _ H' => Q V.non H', rt := Q } [some (.ref b), some hv, some (.ref p), some (.ref TL), some (.ref X), some (.int way), some (.int hour), some x, none] Hx := fun Hx w => by
      refine ⟨_, rfl, rfl, _, rfl, ite2 (fun c => ?_) (fun c => iteF (enterB Hx w))⟩
      exact knownB Hx _ w (fun _ Hy w => iteF (enterB Hy w)) (fun ne Hy w => iteT (putB Hy w ne))
    refine ⟨_, rfl, rfl, _, rfl, ite2 (fun c => ?_) (fun c => iteF (secondB _ w))⟩
    exact knownB H5 _ w (fun _ Hy w => iteF (secondB Hy w)) (fun ne Hy w => iteT (strikeB Hy w ne))

end
end Pot

namespace Pot
open PySem PySem.Spec PyProof.Rows L2
section
variable {P : Program} {w : World} {K : PySem.W.Frag} {mg : Str → Option Value} {base : Heap}
/-- every number was entered before -/
def Good (ts : List Turn) : Prop := (∀ t ∈ ts, 0 ≤ t.n) ∧ ∀ (i : Nat) (t : Turn), ts[i]? = some t → ∃ (j : Nat) (t' : Turn), j ≤ i ∧ ts[j]? = some t' ∧ t'.new = true ∧ t'.n = t.n
theorem mem_putR {l : List Row} {r x : Row} (h : x ∈ putR l r) : x ∈ l ∨ x = r := by
  unfold putR at h
  split at h
  · obtain ⟨y, hy, e⟩ := List.mem_map.mp h
    split at e
    · exact .inr e.symm
    · exact .inl (e ▸ hy)
  · rcases List.mem_append.mp h with h | h
    · exact .inl h
    · exact .inr (List.mem_singleton.mp h)
theorem mem_lastF {rs : List Row} {x : Row} (h : x ∈ lastF rs) : x ∈ rs := by
  have go : ∀ (rs l : List Row), x ∈ rs.foldl putR l → x ∈ l ∨ x ∈ rs := fun rs => by
    induction rs with
    | nil => exact fun l h => .inl h
    | cons r m ih =>
      intro l h
      rcases ih _ h with h | h
      · rcases mem_putR h with h | h
        · exact .inl h
        · exact .inr (by rw [h]; exact List.mem_cons_self)
      · exact .inr (List.mem_cons_of_mem _ h)
  exact (go rs [] h).resolve_left (List.not_mem_nil)
theorem ent_turn {ts : List Turn} {e : Int × Int × Deed} (h : e ∈ entF (lastF (ts.map rowOf))) : ∃ t ∈ ts, t.n = e.2.1 ∧ t.h = e.1 ∧ t.d = some e.2.2 := by
  obtain ⟨t, ht, q⟩ := List.mem_map.mp (mem_lastF (entF_mem h))
  refine ⟨t, ht, ?_⟩
  obtain ⟨n, hh, d, w⟩ := t
  cases d with
  | none => cases q
  | some d => cases q; exact ⟨rfl, rfl, rfl⟩
theorem Good.take {ts : List Turn} (g : Good ts) (i : Nat) : Good (ts.take i) := by
  refine ⟨fun t h => g.1 t (List.mem_of_mem_take h), fun j t e => ?_⟩
  have lj : j < i := by
    have := (List.getElem?_eq_some_iff.mp e).1
    rw [List.length_take] at this
    omega
  rw [List.getElem?_take_of_lt lj] at e
  obtain ⟨a, t', la, e2, e3, e4⟩ := g.2 j t e
  exact ⟨a, t', la, by rw [List.getElem?_take_of_lt (by omega)]; exact e2, e3, e4⟩
theorem Good.pop {ts : List Turn} (g : Good ts) : Good ts.dropLast := by
  rw [List.dropLast_eq_take]
  exact g.take _
theorem Good.snoc {ts : List Turn} {t : Turn} (g : Good ts) (n0 : 0 ≤ t.n) (k : t.new = true ∨ ∃ u ∈ ts, u.n = t.n) : Good (ts ++ [t]) := by
  refine ⟨fun x h => ?_, fun j x e => ?_⟩
  · rcases List.mem_append.mp h with h | h
    · exact g.1 x h
    · rw [List.mem_singleton.mp h]; exact n0
  by_cases lj : j < ts.length
  · rw [List.getElem?_append_left lj] at e
    obtain ⟨a, t', la, e2, e3, e4⟩ := g.2 j x e
    exact ⟨a, t', la, by rw [List.getElem?_append_left (by omega)]; exact e2, e3, e4⟩
  · have ej : j = ts.length := by
      have := (List.getElem?_eq_some_iff.mp e).1
      rw [List.length_append] at this
      simp only [List.length_cons, List.length_nil] at this
      omega
    have ex : x = t := by
      rw [ej, List.getElem?_append_right (Nat.le_refl _), Nat.sub_self] at e
      exact (Option.some.inj e).symm
    rw [ex]
    rcases k with k | ⟨u, hu, ku⟩
    · exact ⟨j, t, Nat.le_refl _, by rw [ej, List.getElem?_append_right (Nat.le_refl _), Nat.sub_self]; rfl, k, rfl⟩
    · obtain ⟨i, li, ei⟩ := List.getElem_of_mem hu
      obtain ⟨a, t', la, e2, e3, e4⟩ := g.2 i u (by rw [List.getElem?_eq_getElem li, ei])
      exact ⟨a, t', by omega, by rw [List.getElem?_append_left (by omega)]; exact e2, e3, e4.trans ku⟩
/-- the numbers that were entered -/
def newN (ts : List Turn) : List Int := (ts.filter fun t => t.new).map fun t => t.n
theorem next_eq {ts : List Turn} {n m : Int} (g : Good ts) (hn : Next (ts.map rowOf) n) (mm : m ∈ -1 :: newN ts) (le : ∀ y ∈ -1 :: newN ts, y ≤ m) : n = m + 1 := by
  have m1 := le (-1) List.mem_cons_self
  have new_mem : ∀ {t : Turn}, t ∈ ts → t.new = true → t.n ≤ m := fun {t} h k => le _ (List.mem_cons_of_mem _ (List.mem_map.mpr ⟨t, List.mem_filter.mpr ⟨h, k⟩, rfl⟩))
  have row_lt : ∀ {t : Turn}, t ∈ ts → t.n < n := fun {t} h => hn.1 _ (List.mem_map.mpr ⟨t, h, rfl⟩)
  have n0 : 0 ≤ n := by
    rcases hn.2 with h | ⟨r, hr, e⟩
    · omega
    · obtain ⟨t, ht, rfl⟩ := List.mem_map.mp hr
      have : t.n = n - 1 := e
      have := g.1 t ht
      omega
  have a : n ≤ m + 1 := by
    rcases hn.2 with h | ⟨r, hr, e⟩
    · omega
    · obtain ⟨t, ht, rfl⟩ := List.mem_map.mp hr
      obtain ⟨i, li, ei⟩ := List.getElem_of_mem ht
      obtain ⟨j, t', _, e2, e3, e4⟩ := g.2 i t (by rw [List.getElem?_eq_getElem li, ei])
      have := new_mem (List.mem_of_getElem? e2) e3
      have : t.n = n - 1 := e
      omega
  have b : m + 1 ≤ n := by
    rcases List.mem_cons.mp mm with h | h
    · omega
    · obtain ⟨t, ht, rfl⟩ := List.mem_map.mp h
      have := row_lt (List.mem_filter.mp ht).1
      omega
  omega
theorem rows_nn {ts : List Turn} (g : Good ts) : ∀ r ∈ ts.map rowOf, 0 ≤ r.1 := fun r hr => by
  obtain ⟨t, ht, rfl⟩ := List.mem_map.mp hr
  exact g.1 t ht

theorem dD_depth1 (d : Deed) : (dD d).depth ≤ 1 := by cases d <;> (simp only [dD, PyData.depth, PyData.depthAll]; decide)
theorem ents_mem {rs : List Row} {d : PyData} (h : d ∈ entsD rs) : ∃ e ∈ entF (lastF rs), d = entD e := by
  rw [show entsD rs = (entS (lastF rs)).map entD from entsL_eq _] at h
  obtain ⟨e, he, rfl⟩ := List.mem_map.mp h
  exact ⟨e, mem_entS.mp he, rfl⟩
theorem ents_len (rs : List Row) : (entsD rs).length ≤ rs.length := by
  rw [show entsD rs = (entS (lastF rs)).map entD from entsL_eq _, List.length_map, entS_len]
  exact Nat.le_trans (entF_len _) (lastF_le rs)
theorem ents_depth (rs : List Row) : (PyData.list (entsD rs)).depth < 4 := by
  have := depthAll_le (n := 2) (ds := entsD rs) fun d hd => by
    obtain ⟨e, _, rfl⟩ := ents_mem hd
    have := dD_depth1 e.2.2
    simp only [entD, PyData.depth, PyData.depthAll]
    omega
  simp only [PyData.depth]
  omega
theorem dD_wid (d : Deed) : widAll.wid (dD d) ≤ 5 := by
  cases d <;> (simp only [dD, widAll.wid, widAll, List.length_cons, List.length_nil]; decide)
theorem widAll_le {n : Nat} : ∀ {ds : List PyData}, (∀ d ∈ ds, widAll.wid d ≤ n) → widAll ds ≤ n
  | [], _ => Nat.zero_le _
  | d :: r, h => by
    have h1 := h d List.mem_cons_self
    have h2 := widAll_le fun d hd => h d (List.mem_cons_of_mem _ hd)
    simp only [widAll]
    omega
theorem ents_wid {rs : List Row} (l : rs.length ≤ 1000) : widAll.wid (.list (entsD rs)) ≤ 1000 := by
  have h1 := ents_len rs
  have h2 := widAll_le (n := 1000) (ds := entsD rs) fun d hd => by
    obtain ⟨e, _, rfl⟩ := ents_mem hd
    have := dD_wid e.2.2
    simp only [entD, widAll.wid, widAll, List.length_cons, List.length_nil]
    omega
  simp only [widAll.wid]
  omega
theorem ents_gd {ts : List Turn} (dk : ∀ t ∈ ts, ∀ d, t.d = some d → DeedOk d) : ∃ m, gd m (.list (entsD (ts.map rowOf))) := by
  obtain ⟨m, hm⟩ := gd_all_ex (ds := entsD (ts.map rowOf)) fun d hd => by
    obtain ⟨e, he, rfl⟩ := ents_mem hd
    obtain ⟨t, ht, _, _, ed⟩ := ent_turn he
    exact gd_en (dk t ht _ ed)
  exact ⟨m, hm⟩

/-- the numbers that were entered are 0, 1, 2, … -/
def Num (ts : List Turn) : Prop := newN ts = (List.range (newN ts).length).map fun j : Nat => (j : Int)
theorem rg_num {ts : List Turn} (h : Num ts) : rgV 0 ((newN ts).length : Nat) = (newN ts).map V.int := by
  unfold rgV
  unfold Num at h
  generalize (newN ts).length = n at h ⊢
  rw [h, List.map_map, Int.sub_zero, Int.toNat_natCast]
  refine List.map_congr_left fun j _ => ?_
  simp only [Function.comp, Int.zero_add]
def spRR (K : PySem.W.Frag) (C : Addr) : Sp := fun vs H Q _ => ∃ (p tl TL : Addr) (v1 v2 v3 v4 : V) (sl : Int) (us : List V) (ts : List Turn), vs = [.ref p, .ref TL] ∧ BkAt K C H p v1 v2 v3 v4 sl tl (ts.map rowOf) ∧ H TL = some (.lst us) ∧ DpAll K H us (ts.map tuD) ∧ ts.length ≤ 900 ∧ Num ts ∧ (∀ t ∈ ts, ∀ d, t.d = some d → DeedOk d) ∧ ∀ H', Same H H' → Q (.bl true) H'
abbrev s__law_row_right : Stmt := topS 16
def n__law_row_right : List Str := ["_law_book", "_law_turns", "_law_found", "_law_number", "_law_hour", "_law_deed", "_law_new", "_law_due", "_law_numbers", "_law_told", "_law_turn", "_law_row"]
theorem sc__law_row_right : FnScope n__law_row_right ["_law_book", "_law_turns"] (defScope s__law_row_right) := ⟨rfl, rfl, rfl, by decide +kernel, rfl, by decide +kernel, by decide +kernel⟩
theorem ok_rr {C CS f : Addr} {fd : FuncData} {k : Nat} (F : Fun K "_law_row_right" "_law_row_right" s__law_row_right f fd) (T : Txt mg) (O : BkC P w K mg base C CS) (len_Book : Own P w K mg base 2 C "__len__" (spBL K C)) (c__law_same : Cl P w K mg base 6 "_law_same" (spSame K 5)) : FnOk P w K mg base CX0 (k + 7) f fd ["_law_book", "_law_turns"] (spRR K C) := by
  refine F.ok sc__law_row_right (fun vs H Q E h => ?_) (fun cdv A outer s H vs Q E hr h => ?_)
  · obtain ⟨p, tl, TL, v1, v2, v3, v4, sl, us, ts, rfl, _⟩ := h
    rfl
  · obtain ⟨p, tl, TL, y1, y2, y3, y4, sl, uo, ts, rfl, M, hT, dT, l, num, dk, q⟩ := h
    have nd := sc__law_row_right.nd
    have hu := hu_of hr
    have hu70 : (A.deeper (envOfC (Str.ofString "_law_row_right") (defScope s__law_row_right) s.heap.objs.size f cdv)).units + 70 < cLine := by have := hr.un; omega
    have m_Book_entries := O.ent
    have m_Book_told_times := O.times
    let CBook := C
    /- 0 _law_book, 1 _law_turns, 2 _law_found, 3 _law_number, 4 _law_hour, 5 _law_deed, 6 _law_new, 7 _law_due, 8 _law_numbers, 9 _law_told, 10 _law_turn, 11 _law_row -/
    refine ⟨_, (pss_cons (ps_set (i := 2) nd rfl (.inl rfl) pe_dnewK)
      (pss_cons (ps_for PassesOwn.never rfl (ki_list (K := K) (pv 1)) (kg_tup (K := K) (n := 4) (pgs_cons (pg_name (i := 3) nd rfl (.inl rfl)) (pgs_cons (pg_name (i := 4) nd rfl (.inl rfl)) (pgs_cons (pg_name (i := 5) nd rfl (.inl rfl)) (pgs_cons (pg_name (i := 6) nd rfl (.inl rfl)) pgs_nil)))))
          (pss_one (ps_dput hu (pv 2) (pv 3) (pe_tup (pa_cons (pv 4) (pa_cons (pv 3) (pa_cons (pv 5) pa_nil)))) rfl)))
      (pss_cons (ps_par (i := 7) (j := 8) rfl nd rfl rfl (by decide) rfl rfl (pa_cons (pe_callB (kc_sortedM (K := K) hu70) (by rfl) T.sorted (by decide +kernel) (pa_cons (pe_lock (pe_lc (own := [("_law_row", 11)]) rfl nd (pi_values (pv 2)) (blkOk_by (N := n__law_row_right) (sc := defScope s__law_row_right) (by decide +kernel)) (fun _ _ _ _ _ => (pg_name (i := 11) nd rfl (.inl rfl))) (fun _ _ _ _ _ => (pts_one (pt_cmpR op_notN (pe_ix (kx_tup (K := K)) (pv 11) pe_int (fun _ _ => rfl)) pe_non (nomark _)))) (fun _ _ _ _ _ => (pv 11)))) pa_nil)) (pa_cons (pe_lc (own := [("_law_turn", 10)]) rfl nd (ki_list (K := K) (pv 1)) (blkOk_by (N := n__law_row_right) (sc := defScope s__law_row_right) (by decide +kernel)) (fun _ _ _ _ _ => (pg_name (i := 10) nd rfl (.inl rfl))) (fun _ _ _ _ _ => (pts_one (pt_val (pe_ix (kx_tup (K := K)) (pv 10) pe_int (fun _ _ => rfl))))) (fun _ _ _ _ _ => (pe_ix (kx_tup (K := K)) (pv 10) pe_int (fun _ _ => rfl)))) pa_nil)) rfl)
      (pss_cons (ps_set (i := 9) nd rfl (.inl rfl) (pe_lst (pa_cons (pe_omt0 m_Book_entries hr (by omega) (pv 0)) (pa_cons (pe_callB (kc_lenI len_Book hr (by omega)) (by rfl) T.len PySem.boot_len (pa_cons (pv 0) pa_nil)) (pa_cons (pe_omt0 m_Book_told_times hr (by omega) (pv 0)) (pa_cons (pv 8) pa_nil))))))
      (pss_one (ps_ret (pe_cl c__law_same hr (by omega) (by rfl) (pa_cons (pv 9) (pa_cons (pe_lst (pa_cons (pv 7) (pa_cons (pe_callB (kc_len (K := K)) (by rfl) T.len PySem.boot_len (pa_cons (pv 7) pa_nil)) (pa_cons (pe_callB (kc_len (K := K)) (by rfl) T.len PySem.boot_len (pa_cons (pv 1) pa_nil)) (pa_cons (pe_listRg rfl (by rfl) T.list (prg_1 (by rfl) T.range (pe_callB (kc_len (K := K)) (by rfl) T.len PySem.boot_len (pa_cons (pv 8) pa_nil)))) pa_nil))))) pa_nil))))))))), ?_⟩
    intro D nD
    have lx : uo.length = ts.length := dpAll_map_len dT
    refine ⟨_, rfl, TL, rfl, ⟨_, SqL.of ((same_upd nD) _ _ hT)⟩, ?_⟩
    refine for_it (walk_list (xs := uo)) (fun i σ Hx => ∃ v2 v3 v4 v5 kv, σ = [some (.ref p), some (.ref TL), some (.ref D), v2, v3, v4, v5, none, none, none, none, none] ∧ Same H Hx ∧ Hx D = some (.dK kv) ∧ KvT K gT Hx kv (lastT (ts.take i))) ⟨_, _, _, _, [], rfl, same_upd nD, upd_same, rfl, .nil⟩ (fun i σ Hx _ h => by obtain ⟨_, _, _, _, _, _, s, _⟩ := h; exact SqL.of (s _ _ hT)) ?_ ?_
    · rintro i y σ Ha Hb hi ⟨v2, v3, v4, v5, kv, rfl, sx, hD, kr⟩ ⟨rfl, gy⟩
      obtain ⟨t, gt, dt⟩ := dpAll_get dT gy
      obtain ⟨u, vz, rfl, hu1, dz⟩ := tu_parts (dp_same sx dt)
      refine ⟨u, _, rfl, hu1, rfl, _, _, rfl, _, _, rfl, _, _, rfl, _, _, rfl, rfl, ?_⟩
      refine ⟨_, rfl, _, rfl, _, rfl, (by show 3 ≤ sizeLine; decide), fun q nq => ?_⟩
      have st := same_upd (o := .tup [V.int t.h, V.int t.n, vz]) nq
      have hD := st _ _ hD
      have kr := kr.same st
      have sx := sx.trans st
      have dv : Dp K (upd Hb q (.tup [V.int t.h, V.int t.n, vz])) (.ref q) (gT (t.h, rowOf t)) := by
        rw [gT_turn]
        exact .tup (.inl (.inl upd_same)) (.cons (.int _) (.cons (.int _) (.cons (dp_same st dz) .nil)))
      generalize upd Hb q (.tup [V.int t.h, V.int t.n, vz]) = Hc at hD kr sx dv ⊢
      have ll := lastT_le (ts.take i)
      rw [List.length_take] at ll
      refine ⟨_, rfl, _, rfl, D, _, rfl, .inl ⟨kv, .inl t.n, hD, rfl, by rw [kr.len, sizeLine_eq]; omega, rfl⟩, _, _, _, _, _, rfl, same_put sx nD, upd_same, ?_⟩
      rw [lastT_take gt]
      exact (kr.put (r := (t.h, rowOf t)) dv).sm noL_gT (sm_wr (S := [D]) (by simp)) (dict_nt hD)
    · rintro σ He ⟨v2, v3, v4, v5, kv, rfl, se, hD, kr⟩
      rw [lx, List.take_length] at kr
      refine ⟨D, _, hD, trivial, fun od => ?_⟩
      have lk := kr.len
      have ll := lastT_le ts
      have krF : KvT K gT (upd He D (.frz od (.dK kv))) kv (lastT ts) := kr.sm noL_gT (sm_wr (S := [D]) (by simp)) (dict_nt hD)
      have hDF : upd He D (.frz od (.dK kv)) D = some (.frz od (.dK kv)) := upd_same
      have bk : ∀ {Hx : Hp}, Same (upd He D (.frz od (.dK kv))) Hx → Same He (upd Hx D (.dK kv)) := fun {Hx} s b o e => by
        by_cases c : b = D
        · rw [c, upd_same]; rw [c, hD] at e; exact e
        · rw [upd_ne c]; exact s _ _ (by rw [upd_ne c]; exact e)
      have nH : ∀ {R : Addr}, upd He D (.frz od (.dK kv)) R = none → R ≠ D ∧ He R = none := fun {R} n => by
        have h1 : R ≠ D := fun z => by rw [z, upd_same] at n; cases n
        rw [upd_ne h1] at n
        exact ⟨h1, n⟩
      generalize upd He D (.frz od (.dK kv)) = HF at krF hDF bk nH ⊢
      refine ⟨_, rfl, D, od, _, rfl, hDF, fun R nR => ?_⟩
      obtain ⟨RD, nRe⟩ := nH nR
      refine lc_it (walk_values (kvs := kv)) (fun j Hx => Same HF Hx ∧ ∃ us, Hx R = some (.lst us) ∧ us.length ≤ j ∧ DpAll K Hx us ((entF (((lastT ts).take j).map (·.2))).map entD)) ⟨same_upd nR, [], upd_same, Nat.le_refl _, .nil⟩ (fun j Hx _ h => h.1 _ _ hDF) ?_ ?_
      · rintro j y Ha Hb hj ⟨sx, us, hR, lu, du⟩ ⟨rfl, kx, gl⟩
        obtain ⟨r, gr, rfl, dv⟩ := krF.at_ gl
        have dv := dp_same sx dv
        obtain ⟨t, vx, vz, rfl, ht, ez, eD⟩ := gT_parts dv
        refine ⟨rfl, _, rfl, t, _, 2, _, rfl, rfl, ht, rfl, rfl, _, rfl, ?_⟩
        rw [ez]
        have et := entF_take (l := (lastT ts).map (·.2)) (i := j) (r := r.2) (by rw [List.getElem?_map, gr]; rfl)
        rw [← List.map_take, ← List.map_take] at et
        cases eo : r.2.2 with
        | none =>
          rw [eo] at et
          show (if (Option.isSome (none : Option (Int × Deed))) = true then _ else _)
          rw [if_neg (by decide)]
          refine ⟨sx, us, hR, by omega, ?_⟩
          rw [et]
          simpa using du
        | some e =>
          rw [eo] at et
          show (if (Option.isSome (some e)) = true then _ else _)
          rw [if_pos (show Option.isSome (some e) = true from rfl)]
          refine ⟨_, rfl, us, hR, by rw [kr.len] at hj; rw [sizeLine_eq]; omega, same_put sx nR, us ++ [.ref t], upd_same, by rw [List.length_append]; show _ + 1 ≤ _; omega, ?_⟩
          rw [et, List.map_append]
          exact dpAll_nt (dpAll_app' du (.cons (eD e eo) .nil)) (by rw [← List.map_append]; exact noL_map (f := entD) noL_en _) (sm_wr (S := [R]) (p := R) (by simp)) (lst_nt hR)
      · rintro H2 ⟨s2, us, hR, lu, du⟩
        rw [lk, List.take_length, lastT_R] at du
        have hD2 := s2 _ _ hDF
        refine ⟨hD2, ?_⟩
        have s3 := bk s2
        have du := dpAll_nt du (noL_map (f := entD) noL_en _) (sm_wr (S := [D]) (p := D) (o := .dK kv) (by simp)) (frz_nt hD2)
        have hR : upd H2 D (.dK kv) R = some (.lst us) := (upd_ne RD).trans hR
        generalize upd H2 D (.dK kv) = H3 at s3 hR du ⊢
        refine ⟨R, us, _, rfl, SqL.of hR, du, rows_ent (lastF_nodup _), fun d hd => by obtain ⟨e, _, rfl⟩ := List.mem_map.mp hd; exact ent_depth e, fun zs p2 dz np2 => ?_⟩
        have SD := (se.trans s3).trans (same_upd (o := .lst zs) np2)
        have hZ : upd H3 p2 (.lst zs) p2 = some (.lst zs) := upd_same
        have dz := dpAll_same (same_upd (o := .lst zs) np2) dz
        rw [show ((entF (lastF (ts.map rowOf))).map entD).mergeSort (PySem.W.dataLe false fun d => d) = entsD (ts.map rowOf) from rfl] at dz
        generalize upd H3 p2 (.lst zs) = H4 at SD hZ dz ⊢
        clear hR du s3 hD2 s2 krF hDF bk nH hD kr se np2
        have hT := SD _ _ hT
        have dT := dpAll_same SD dT
        refine ⟨_, rfl, TL, rfl, ⟨_, SqL.of hT⟩, fun Y nY => ?_⟩
        refine lc_it (walk_list (xs := uo)) (fun j Hx => Same H4 Hx ∧ Hx Y = some (.lst ((newN (ts.take j)).map V.int))) ⟨same_upd nY, upd_same⟩ (fun j Hx _ h => SqL.of (h.1 _ _ hT)) ?_ ?_
        · rintro i y Hb Hc hi ⟨sx, hY⟩ ⟨rfl, gy⟩
          obtain ⟨t, gt, dt⟩ := dpAll_get dT gy
          obtain ⟨u, vz, rfl, hu1, dz⟩ := tu_parts (dp_same sx dt)
          have en : newN (ts.take (i + 1)) = newN (ts.take i) ++ (if t.new = true then [t.n] else []) := by
            unfold newN
            rw [List.take_add_one, gt, List.filter_append, List.map_append]
            show _ ++ List.map _ (List.filter _ [t]) = _
            by_cases c : t.new = true
            · rw [if_pos c, List.filter_cons_of_pos (p := fun t : Turn => t.new) c]; rfl
            · rw [if_neg c, List.filter_cons_of_neg (p := fun t : Turn => t.new) c]; rfl
          have ln : (newN (ts.take i)).length ≤ i := by
            unfold newN
            rw [List.length_map]
            exact Nat.le_trans (List.length_filter_le _ _) (by rw [List.length_take]; omega)
          refine ⟨rfl, _, rfl, u, _, 3, _, rfl, rfl, hu1, rfl, _, rfl, ite2 (fun c => ?_) (fun c => ?_)⟩
          · refine ⟨_, rfl, u, _, 0, _, rfl, rfl, hu1, rfl, _, hY, ?_, same_put sx nY, ?_⟩
            · rw [List.length_map, sizeLine_eq]; omega
            · rw [upd_same, en, if_pos c, List.map_append]; rfl
          · refine ⟨sx, ?_⟩
            rw [en, if_neg c, List.append_nil]
            exact hY
        rintro H5 ⟨s5, hY⟩
        rw [lx, List.take_length] at hY
        refine ⟨_, _, rfl, ?_⟩
        have hZ := s5 _ _ hZ
        have dz := dpAll_same s5 dz
        have hT := s5 _ _ hT
        have SD := SD.trans s5
        clear s5 nY dT
        have no : ∀ {m : Str}, (m == ("palette" : Str)) = false → (m == ("kinds" : Str)) = false → (m == ("teams" : Str)) = false → (m == ("pots" : Str)) = false → (m == ("slots" : Str)) = false → (m == ("told" : Str)) = false → (bkF y1 y2 y3 y4 sl tl).lookup m = none := fun a b c d e f => bk_no a b c d e f
        have lrs : (ts.map rowOf).length ≤ 1000 := by rw [List.length_map]; omega
        have M := M.same SD
        obtain ⟨dxp, hp⟩ := M.ob
        refine ⟨_, rfl, p, dxp, _, rfl, hp, no (by decide +kernel) (by decide +kernel) (by decide +kernel) (by decide +kernel) (by decide +kernel) (by decide +kernel), p, tl, y1, y2, y3, y4, sl, _, rfl, M, lrs, fun H6 R6 us6 s6 nR6 hR6 dR6 => ?_⟩
        have M := M.same s6
        have hp := s6 _ _ hp
        refine ⟨_, rfl, p, dxp, _, rfl, hp, p, tl, y1, y2, y3, y4, sl, _, rfl, M, lrs, fun H7 s7 => ⟨_, rfl, ?_, ?_⟩⟩
        · have := ents_len (ts.map rowOf)
          omega
        have M := M.same s7
        have hp := s7 _ _ hp
        refine ⟨_, rfl, p, dxp, _, rfl, hp, no (by decide +kernel) (by decide +kernel) (by decide +kernel) (by decide +kernel) (by decide +kernel) (by decide +kernel), p, tl, y1, y2, y3, y4, sl, _, rfl, M, _, rfl, (by show 4 ≤ sizeLine; decide), fun L1 nL1 => ?_⟩
        have s8 := (s6.trans s7).trans (same_upd (o := .lst [V.ref R6, V.int ((entsD (ts.map rowOf)).length : Nat), V.int ((ts.map rowOf).length : Nat), V.ref Y]) nL1)
        have hL1 : upd H7 L1 (.lst [V.ref R6, V.int ((entsD (ts.map rowOf)).length : Nat), V.int ((ts.map rowOf).length : Nat), V.ref Y]) L1 = some (.lst [V.ref R6, V.int ((entsD (ts.map rowOf)).length : Nat), V.int ((ts.map rowOf).length : Nat), V.ref Y]) := upd_same
        have hR6 := (s7.trans (same_upd (o := .lst [V.ref R6, V.int ((entsD (ts.map rowOf)).length : Nat), V.int ((ts.map rowOf).length : Nat), V.ref Y]) nL1)) _ _ hR6
        have dR6 := dpAll_same (s7.trans (same_upd (o := .lst [V.ref R6, V.int ((entsD (ts.map rowOf)).length : Nat), V.int ((ts.map rowOf).length : Nat), V.ref Y]) nL1)) dR6
        generalize upd H7 L1 (.lst [V.ref R6, V.int ((entsD (ts.map rowOf)).length : Nat), V.int ((ts.map rowOf).length : Nat), V.ref Y]) = H8 at s8 hL1 hR6 dR6 ⊢
        have hZ := s8 _ _ hZ
        have dz := dpAll_same s8 dz
        have hT := s8 _ _ hT
        have hY := s8 _ _ hY
        have SD := SD.trans s8
        refine ⟨_, rfl, _, rfl, _, rfl, _, _, rfl, .inl ⟨_, SqL.of hZ, rfl⟩, _, rfl, _, _, rfl, .inl ⟨_, SqL.of hT, rfl⟩, ?_⟩
        have ln : (newN ts).length ≤ 900 := by
          unfold newN
          rw [List.length_map]
          exact Nat.le_trans (List.length_filter_le _ _) l
        have lz : zs.length = (entsD (ts.map rowOf)).length := dpAll_len dz
        refine ⟨_, rfl, _, (newN ts).length, rfl, .inl ⟨_, SqL.of hY, by rw [List.length_map]⟩, _, rfl, RgOk.of_le (by omega) (by omega) (by omega) (by omega), fun Z nZ => ?_⟩
        rw [show rgV 0 ((newN ts).length : Nat) = (newN ts).map V.int from rg_num num]
        have s9 := same_upd (o := .lst ((newN ts).map V.int)) nZ
        have h9 : upd H8 Z (.lst ((newN ts).map V.int)) Z = some (.lst ((newN ts).map V.int)) := upd_same
        have hL1 := s9 _ _ hL1
        have hR6 := s9 _ _ hR6
        have dR6 := dpAll_same s9 dR6
        have hZ := s9 _ _ hZ
        have dz := dpAll_same s9 dz
        have hY := s9 _ _ hY
        have SD := SD.trans s9
        generalize upd H8 Z (.lst ((newN ts).map V.int)) = H9 at h9 hL1 hR6 dR6 hZ dz hY SD ⊢
        refine ⟨(by show 4 ≤ sizeLine; decide), fun L2 nL2 => ?_⟩
        have s10 := same_upd (o := .lst [V.ref p2, V.int (zs.length : Nat), V.int (uo.length : Nat), V.ref Z]) nL2
        obtain ⟨mg_, hg⟩ := ents_gd dk
        obtain ⟨mn_, hn⟩ := gd_all_ex (ds := (newN ts).map PyData.int) fun dd hd => by
          obtain ⟨n, _, rfl⟩ := List.mem_map.mp hd
          exact gd_int n
        obtain ⟨mm_, hm⟩ := gd_tup4 (a := .list (entsD (ts.map rowOf))) (b := .int ((entsD (ts.map rowOf)).length : Nat)) (c := .int ((ts.map rowOf).length : Nat)) (d := .list ((newN ts).map PyData.int)) ⟨mg_, hg⟩ (gd_int _) (gd_int _) ⟨mn_, hn⟩
        refine ⟨.ref L1, .ref L2, .list [.list (entsD (ts.map rowOf)), .int ((entsD (ts.map rowOf)).length : Nat), .int ((ts.map rowOf).length : Nat), .list ((newN ts).map PyData.int)], mm_, rfl, ?_, ?_, ?_, ?_, hm, fun H' s' => q H' ((SD.trans s10).trans s')⟩
        · exact .lst (SqL.of (s10 _ _ hL1)) (.cons (.lst (SqL.of (s10 _ _ hR6)) (dpAll_same s10 dR6)) (.cons (.int _) (.cons (.int _) (.cons (.lst (SqL.of (s10 _ _ hY)) (dp_ints _)) .nil))))
        · rw [lz, lx] 
          have e : ts.length = (ts.map rowOf).length := (List.length_map _).symm
          rw [e]
          exact .lst (SqL.of upd_same) (.cons (.lst (SqL.of (same_upd nL2 _ _ hZ)) (dpAll_same (same_upd nL2) dz)) (.cons (.int _) (.cons (.int _) (.cons (.lst (SqL.of (same_upd nL2 _ _ h9)) (dp_ints _)) .nil))))
        · have h1 := ents_depth (ts.map rowOf)
          have h2 := depthAll_le (n := 0) (ds := (newN ts).map PyData.int) fun d hd => by
            obtain ⟨n, _, rfl⟩ := List.mem_map.mp hd
            exact Nat.le_refl _
          simp only [PyData.depth, PyData.depthAll] at h1 ⊢
          omega
        · have h1 := ents_wid (rs := ts.map rowOf) (by rw [List.length_map]; omega)
          have h2 := widAll_le (n := 0) (ds := (newN ts).map PyData.int) fun d hd => by
            obtain ⟨n, _, rfl⟩ := List.mem_map.mp hd
            exact Nat.le_refl _
          simp only [widAll.wid, widAll, List.length_cons, List.length_nil, List.length_map] at h1 ⊢
          omega

end
end Pot

namespace Pot
open PySem PySem.Spec PyProof.Rows L2
section
variable {P : Program} {w : World} {K : PySem.W.Frag} {mg : Str → Option Value} {base : Heap}
theorem num_pre {l1 l2 : List Int} {n : Nat} (h : l1 ++ l2 = (List.range n).map fun j : Nat => (j : Int)) : l1 = (List.range l1.length).map fun j : Nat => (j : Int) := by
  have e := congrArg (fun l => List.take l1.length l) h
  simp only [List.take_left] at e
  have ln : l1.length ≤ n := by
    have := congrArg List.length h
    rw [List.length_append, List.length_map, List.length_range] at this
    omega
  rw [← List.map_take, List.take_range, Nat.min_eq_left ln] at e
  exact e
theorem newN_app (a b : List Turn) : newN (a ++ b) = newN a ++ newN b := by
  unfold newN
  rw [List.filter_append, List.map_append]
theorem Num.pre {a b : List Turn} (h : Num (a ++ b)) : Num a := by
  unfold Num at h ⊢
  rw [newN_app] at h
  exact num_pre h
theorem Num.take {ts : List Turn} (h : Num ts) (i : Nat) : Num (ts.take i) := by
  rw [← List.take_append_drop i ts] at h
  exact h.pre
theorem Num.pop {ts : List Turn} (h : Num ts) : Num ts.dropLast := by
  rw [List.dropLast_eq_take]
  exact h.take _
theorem next_num {ts : List Turn} {n : Int} (g : Good ts) (h : Num ts) (hn : Next (ts.map rowOf) n) : n = ((newN ts).length : Nat) := by
  have := next_eq (m := ((newN ts).length : Int) - 1) g hn ?_ ?_
  · omega
  · rcases Nat.eq_zero_or_pos (newN ts).length with e | e
    · rw [e]; exact List.mem_cons_self
    · refine List.mem_cons_of_mem _ ?_
      rw [h]
      generalize (newN ts).length = n at e ⊢
      exact List.mem_map.mpr ⟨n - 1, List.mem_range.mpr (by omega), by rw [List.length_map, List.length_range]; omega⟩
  · intro y hy
    rcases List.mem_cons.mp hy with rfl | hy
    · omega
    · rw [h] at hy
      obtain ⟨j, hj, rfl⟩ := List.mem_map.mp hy
      have := List.mem_range.mp hj
      omega
/-- what a deed keeps -/
theorem Step.keeps {ts : List Turn} {rs' : List Row} {ts' : List Turn} (s : Step (ts.map rowOf) ts rs' ts') (g : Good ts) (n : Num ts) (dk : ∀ t ∈ ts, ∀ d, t.d = some d → DeedOk d) : rs' = ts'.map rowOf ∧ Good ts' ∧ Num ts' ∧ (∀ t ∈ ts', ∀ d, t.d = some d → DeedOk d) ∧ ts'.length ≤ ts.length + 1 := by
  cases s with
  | pop => exact ⟨(List.map_dropLast ..).symm, g.pop, n.pop, fun t ht => dk t (by rw [List.dropLast_eq_take] at ht; exact List.mem_of_mem_take ht), by rw [List.length_dropLast]; omega⟩
  | add t c ok h0 h9 =>
    have dk' : ∀ u ∈ ts ++ [t], ∀ d, u.d = some d → DeedOk d := fun u hu => by
      rcases List.mem_append.mp hu with hu | hu
      · exact dk u hu
      · rw [List.mem_singleton.mp hu]; exact ok
    refine ⟨by rw [List.map_append]; rfl, ?_, ?_, dk', by rw [List.length_append]; exact Nat.le_refl _⟩
    · rcases c with ⟨c, nx⟩ | ⟨c, st⟩
      · exact g.snoc (by rw [next_num g n nx]; omega) (.inl c)
      · obtain ⟨e0, he0, en0⟩ := st
        obtain ⟨t1, ht1, en1, _, _⟩ := ent_turn he0
        have kn : ∃ u ∈ ts, u.n = t.n := ⟨t1, ht1, en1.trans en0⟩
        exact g.snoc (by obtain ⟨u, hu, e⟩ := kn; rw [← e]; exact g.1 u hu) (.inr kn)
    · unfold Num
      rw [newN_app]
      rcases c with ⟨c, nx⟩ | ⟨c, st⟩
      · have e : newN [t] = [t.n] := by unfold newN; rw [List.filter_cons_of_pos (p := fun t : Turn => t.new) c]; rfl
        rw [e, List.length_append, next_num g n nx]
        show _ = (List.range ((newN ts).length + 1)).map _
        rw [List.range_succ, List.map_append, ← show newN ts = _ from n]
        rfl
      · have e : newN [t] = [] := by unfold newN; rw [List.filter_cons_of_neg (p := fun t : Turn => t.new) (by rw [c]; decide)]; rfl
        rw [e, List.append_nil]
        exact n
/-- box, hall, a Book and its row of turns -/
structure Os (K : PySem.W.Frag) (C : Addr) (H Hx : Hp) (b : Addr) (hv : V) (h : Hall) (p tl : Addr) (v1 v2 v3 v4 : V) (sl : Int) (TL : Addr) (ts : List Turn) (m : Nat) : Prop where
  B : Bp Hx b m
  fr : Sm [b, tl, TL] H Hx
  hd : Dp K Hx hv (hallD h)
  bk : BkAt K C Hx p v1 v2 v3 v4 sl tl (ts.map rowOf)
  t : ∃ us, Hx TL = some (.lst us) ∧ DpAll K Hx us (ts.map tuD)
  gd : Good ts
  nm : Num ts
  dk : ∀ t ∈ ts, ∀ d, t.d = some d → DeedOk d
section
variable {C : Addr} {H Hx H' : Hp} {b : Addr} {hv : V} {h : Hall} {p tl : Addr} {v1 v2 v3 v4 : V} {sl : Int} {TL : Addr} {ts ts' : List Turn} {m m' : Nat}
theorem Os.nt (D : Os K C H Hx b hv h p tl v1 v2 v3 v4 sl TL ts m) : NT [b, tl, TL] Hx := by
  obtain ⟨_, hl, _⟩ := D.bk.li
  obtain ⟨_, hT, _⟩ := D.t
  intro x hx ob e
  simp only [List.mem_cons, List.not_mem_nil, or_false] at hx
  rcases hx with rfl | rfl | rfl
  · exact bp_nt D.B x (by simp) ob e
  · exact lst_nt hl x (by simp) ob e
  · exact lst_nt hT x (by simp) ob e
theorem Os.same (D : Os K C H Hx b hv h p tl v1 v2 v3 v4 sl TL ts m) (s : Same Hx H') : Os K C H H' b hv h p tl v1 v2 v3 v4 sl TL ts m := by
  obtain ⟨us, h1, h2⟩ := D.t
  exact ⟨D.B.same s, D.fr.trans (sm_of s), dp_same s D.hd, D.bk.same s, ⟨us, s _ _ h1, dpAll_same s h2⟩, D.gd, D.nm, D.dk⟩
theorem Os.mono (D : Os K C H Hx b hv h p tl v1 v2 v3 v4 sl TL ts m) (l : m ≤ m') : Os K C H Hx b hv h p tl v1 v2 v3 v4 sl TL ts m' := ⟨D.B.mono l, D.fr, D.hd, D.bk, D.t, D.gd, D.nm, D.dk⟩
theorem Os.next {us' : List V} (D : Os K C H Hx b hv h p tl v1 v2 v3 v4 sl TL ts m) (s : Sm [b, tl, TL] Hx H') (B : Bp H' b m') (M : BkAt K C H' p v1 v2 v3 v4 sl tl (ts'.map rowOf)) (hT : H' TL = some (.lst us')) (dT : DpAll K H' us' (ts'.map tuD)) (g : Good ts') (n : Num ts') (dk : ∀ t ∈ ts', ∀ d, t.d = some d → DeedOk d) : Os K C H H' b hv h p tl v1 v2 v3 v4 sl TL ts' m' := ⟨B, D.fr.trans s, dp_nt D.hd (noL_hall h) s D.nt, M, ⟨us', hT, dT⟩, g, n, dk⟩
end
def spOR (K : PySem.W.Frag) (C : Addr) : Sp := fun vs H Q _ => ∃ (b p tl TL : Addr) (hv v1 v2 v3 v4 : V) (h : Hall) (sl : Int) (ts : List Turn) (m : Nat), vs = [.ref b, hv, .ref p, .ref TL] ∧ HallOk h ∧ b ≠ tl ∧ b ≠ TL ∧ tl ≠ TL ∧ Os K C H H b hv h p tl v1 v2 v3 v4 sl TL ts m ∧ ts.length ≤ 800 ∧ m + 9000 < 2 ^ 40 ∧
  ∀ H', Bp H' b (m + 600) → Sm [b, tl, TL] H H' → Q (.bl true) H'
abbrev s__law_own_row_right : Stmt := topS 17
def n__law_own_row_right : List Str := ["_law_box", "_law_hall", "_law_book", "_law_turns", "_law_turn"]
theorem sc__law_own_row_right : FnScope n__law_own_row_right ["_law_box", "_law_hall", "_law_book", "_law_turns"] (defScope s__law_own_row_right) := ⟨rfl, rfl, rfl, by decide +kernel, rfl, by decide +kernel, by decide +kernel⟩
theorem ok_or {C CS f : Addr} {fd : FuncData} {k : Nat} (F : Fun K "_law_own_row_right" "_law_own_row_right" s__law_own_row_right f fd) (T : Txt mg) (O : BkC P w K mg base C CS) (c__law_told_once : Cl P w K mg base 7 "_law_told_once" (spTO K C)) (c__law_row_right : Cl P w K mg base 7 "_law_row_right" (spRR K C)) : FnOk P w K mg base CX0 (k + 8) f fd ["_law_box", "_law_hall", "_law_book", "_law_turns"] (spOR K C) := by
  refine F.ok sc__law_own_row_right (fun vs H Q E h => ?_) (fun cdv A outer s H vs Q E hr h => ?_)
  · obtain ⟨b, p, tl, TL, hv, v1, v2, v3, v4, h, sl, ts, m, rfl, _⟩ := h
    rfl
  · obtain ⟨b, p, tl, TL, hv, v1, v2, v3, v4, h, sl, ts, m, rfl, okh, bt, bT, tT, D, lt, hm, q⟩ := h
    have nd := sc__law_own_row_right.nd
    have hu64 := hr.units
    have m_Book_undo := O.undo
    let CBook := C
    /- 0 _law_box, 1 _law_hall, 2 _law_book, 3 _law_turns, 4 _law_turn -/
    refine ⟨_, (pss_cons (ps_for PassesOwn.never rfl (pi_range1 (by rfl) T.range (pa_cons pe_int pa_nil)) (pg_name (i := 4) nd rfl (.inl rfl))
          (pss_cons (ps_expr (pe_cl c__law_told_once hr (by omega) (by rfl) (pa_cons (pv 0) (pa_cons (pv 1) (pa_cons (pv 2) (pa_cons (pv 3) pa_nil))))))
          (pss_one (ps_if (pt_not (pt_val (pe_cl c__law_row_right hr (by omega) (by rfl) (pa_cons (pv 2) (pa_cons (pv 3) pa_nil)))))
              pss_never
              pss_nil))))
      (pss_cons (ps_while PassesOwn.never (pt_cmpR (ko_ne (K := K) hu64) (pv 3) (pe_lst pa_nil) (nomark _))
          (pss_cons (ps_expr (pe_bm0 PySem.F.plainAttrs_list PySem.F.slot_list_pop PySem.F.type_list_pop mt_pop (pv 3)))
          (pss_one (ps_if ((pw_or (pt_cmpR op_notBl (pe_omt0 m_Book_undo hr (by omega) (pv 2)) pe_bl (nomark _)) (pw_or1 (pt_not (pt_val (pe_cl c__law_row_right hr (by omega) (by rfl) (pa_cons (pv 2) (pa_cons (pv 3) pa_nil)))))))).pt
              pss_never
              pss_nil))))
      (pss_one (ps_ret (pe_cmpR op_isBl (pe_omt0 m_Book_undo hr (by omega) (pv 2)) pe_bl (nomark _)))))), ?_⟩
    refine ⟨_, rfl, (by decide), (by decide), ?_⟩
    refine for_it walk_range (fun i σ Hx => ∃ ts v4_, σ = [some (.ref b), some hv, some (.ref p), some (.ref TL), v4_] ∧ Os K C H Hx b hv h p tl v1 v2 v3 v4 sl TL ts (m + 60 * i) ∧ ts.length ≤ 800 + i) ⟨ts, _, rfl, D, lt⟩ (fun _ _ _ _ _ => trivial) ?_ ?_
    · clear D lt
      rintro i x σ Hx H2 hi ⟨ts, v4_, rfl, D, lt⟩ ⟨rfl, rfl⟩
      have hi8 : i < 8 := hi
      obtain ⟨us, hT, dT⟩ := D.t
      refine ⟨_, rfl, _, rfl, _, rfl, _, rfl, b, p, tl, TL, hv, v1, v2, v3, v4, h, sl, us, _, ts, _, rfl, D.B, by omega, D.hd, okh, D.bk, hT, dT, bt, bT, tT, by rw [List.length_map]; omega, by omega, rows_nn D.gd, D.dk, fun H' us' rs' ts' B' s' M' hT' dT' st => ?_⟩
      obtain ⟨rfl, g', n', dk', l'⟩ := st.keeps D.gd D.nm D.dk
      have D' := D.next s' B' M' hT' dT' g' n' dk'
      refine ⟨_, rfl, _, rfl, p, tl, TL, v1, v2, v3, v4, sl, us', ts', rfl, M', hT', dT', by omega, n', dk', fun H3 s3 => ⟨true, rfl, iteF ?_⟩⟩
      exact ⟨ts', _, rfl, (D'.same s3).mono (by omega), by omega⟩
    clear D lt ts
    rintro σ H1 ⟨ts, v4_, rfl, D, lt⟩
    have lt : ts.length ≤ 808 := lt
    have D := D.mono (show m + 60 * 8 ≤ m + 480 by omega)
    refine ⟨fun n σ Hx => ∃ ts, n = ts.length ∧ σ = [some (.ref b), some hv, some (.ref p), some (.ref TL), v4_] ∧ Os K C H Hx b hv h p tl v1 v2 v3 v4 sl TL ts (m + 480) ∧ ts.length ≤ 808, ⟨ts.length, ts, rfl, rfl, D, lt⟩, ?_⟩
    rintro n σ Hx ⟨ts, rfl, rfl, D, lt⟩
    refine ⟨_, rfl, Nat.zero_le _, fun L nL => ?_⟩
    have sL := same_upd (o := .lst []) nL
    have hL : upd Hx L (.lst []) L = some (.lst []) := upd_same
    have D := D.same sL
    generalize upd Hx L (.lst []) = H2 at D hL ⊢
    obtain ⟨us, hT, dT⟩ := D.t
    have lu : us.length = ts.length := dpAll_map_len dT
    obtain ⟨mg_, hg⟩ := gd_all_ex (ds := ts.map tuD) fun dd hd => by
      obtain ⟨t, ht, rfl⟩ := List.mem_map.mp hd
      exact gd_tu (D.dk t ht)
    have hg : gd mg_ (.list (ts.map tuD)) := hg
    refine ⟨.list (ts.map tuD), .list [], .lst (SqL.of hT) dT, .lst (SqL.of hL) .nil, gd_shaped (m := mg_) hg (tu_list_depth ts), rfl, _, rfl, ?_⟩
    have e : (!PyData.eqv (.list (ts.map tuD)) (.list [])) = !ts.isEmpty := by cases ts <;> rfl
    rw [e]
    have no : ∀ {m : Str}, (m == ("palette" : Str)) = false → (m == ("kinds" : Str)) = false → (m == ("teams" : Str)) = false → (m == ("pots" : Str)) = false → (m == ("slots" : Str)) = false → (m == ("told" : Str)) = false → (bkF v1 v2 v3 v4 sl tl).lookup m = none := fun a b c d e f => bk_no a b c d e f
    refine ite2 (fun c => ?_) (fun c => ?_)
    · have ne : ts ≠ [] := fun z => by rw [z] at c; cases c
      have eu : us ≠ [] := fun z => ne (List.eq_nil_of_length_eq_zero (by rw [← lu, z]; rfl))
      refine ⟨fun σ Hx => ∃ ts', ts'.length < ts.length ∧ σ = [some (.ref b), some hv, some (.ref p), some (.ref TL), v4_] ∧ Os K C H Hx b hv h p tl v1 v2 v3 v4 sl TL ts' (m + 480) ∧ ts'.length ≤ 808, fun σ' H' ⟨ts', l', e', D', lt'⟩ => ⟨ts'.length, l', ts', rfl, e', D', lt'⟩, ?_⟩
      refine ⟨_, rfl, .inl ⟨rfl, _, SqL.of hT⟩, TL, us, _, rfl, rfl, hT, List.getLast?_eq_getElem?.symm.trans (List.getLast?_eq_some_getLast eu), ?_⟩
      have pT : p ≠ TL := fun z => by
        obtain ⟨dx, hp⟩ := D.bk.ob
        rw [z, hT] at hp; cases hp
      have sw := sm_wr (H := H2) (S := [TL]) (p := TL) (o := .lst us.dropLast) (by simp)
      have M3 := D.bk.sm sw (by simp [pT]) (by simp [tT]) (lst_nt hT)
      have d3 := dpAll_dropLast dT
      rw [← List.map_dropLast] at d3
      have d3 := dpAll_nt d3 (noL_map (f := tuD) noL_tu _) sw (lst_nt hT)
      have h3 : upd H2 TL (.lst us.dropLast) TL = some (.lst us.dropLast) := upd_same
      have B3 := D.B.wr (o := .lst us.dropLast) bT.symm
      have s3 : Sm [b, tl, TL] H2 (upd H2 TL (.lst us.dropLast)) := sm_mono (by simp) sw
      generalize upd H2 TL (.lst us.dropLast) = H3 at M3 d3 h3 B3 s3 ⊢
      obtain ⟨dxp, hp⟩ := M3.ob
      refine ⟨_, rfl, p, dxp, _, rfl, hp, no (by decide +kernel) (by decide +kernel) (by decide +kernel) (by decide +kernel) (by decide +kernel) (by decide +kernel), p, tl, v1, v2, v3, v4, sl, _, rfl, M3, fun z => absurd (List.eq_nil_of_map_eq_nil z) ne, fun _ H4 s4 M4 => ?_⟩
      obtain ⟨_, hl3, _⟩ := M3.li
      have d4 := dpAll_nt d3 (noL_map (f := tuD) noL_tu _) s4 (lst_nt hl3)
      have h4 := sm1_at s4 tT.symm h3
      obtain ⟨c1, c2, c3, hb, r⟩ := B3
      rw [← List.map_dropLast] at M4
      have D4 := D.next (s3.trans (sm_mono (by simp) s4)) ⟨c1, c2, c3, sm1_at s4 bt hb, r⟩ M4 h4 d4 D.gd.pop D.nm.pop (fun t ht => D.dk t (by rw [List.dropLast_eq_take] at ht; exact List.mem_of_mem_take ht))
      refine ⟨true, true, rfl, rfl, _, rfl, iteF ?_⟩
      have l4 : ts.dropLast.length < ts.length := by rw [List.length_dropLast]; have := List.length_pos_iff.mpr ne; omega
      refine ⟨_, rfl, _, rfl, p, tl, TL, v1, v2, v3, v4, sl, us.dropLast, ts.dropLast, rfl, M4, h4, d4, by omega, D4.nm, D4.dk, fun H5 s5 => ⟨true, rfl, iteF ?_⟩⟩
      exact ⟨ts.dropLast, l4, rfl, D4.same s5, by omega⟩
    · have e0 : ts = [] := by cases ts with | nil => rfl | cons _ _ => exact absurd rfl c
      obtain ⟨dxp, hp⟩ := D.bk.ob
      refine ⟨_, rfl, p, dxp, _, rfl, hp, no (by decide +kernel) (by decide +kernel) (by decide +kernel) (by decide +kernel) (by decide +kernel) (by decide +kernel), p, tl, v1, v2, v3, v4, sl, _, rfl, D.bk, fun _ => ⟨false, false, rfl, rfl, ?_⟩, fun z => absurd (by rw [e0]; rfl) z⟩
      exact q _ (D.B.mono (by omega)) D.fr

end
end Pot

namespace Pot
open PySem PySem.Spec PyProof.Rows L2
section
variable {P : Program} {w : World} {K : PySem.W.Frag} {mg : Str → Option Value} {base : Heap}
theorem pick_back {xs : List V} {n : Nat} (h : xs.length = n + 1) : pickV xs (some (-2)) (some (-1)) = (List.range n).map fun i => xs.getD (n - 1 - i) .non := by
  have b : sliceBounds (some (-2)) none (some (-1)) (n + 1) = ((n : Int) - 1, -1, -1) := by
    show (max (-1) (min (if (-2 : Int) < 0 then (-2 : Int) + ((n + 1 : Nat) : Int) else -2) (((n + 1 : Nat) : Int) - 1)), (-1 : Int), (-1 : Int)) = _
    rw [if_pos (by decide)]
    have : max (-1 : Int) (min (-2 + ((n + 1 : Nat) : Int)) (((n + 1 : Nat) : Int) - 1)) = (n : Int) - 1 := by omega
    rw [this]
  have e : sliceRange ((n : Int) - 1) (-1) (-1) = (List.range n).map (fun i => n - 1 - i) := by
    have hc : (if (-1 : Int) > 0 then (if (n : Int) - 1 < -1 then (-1 - ((n : Int) - 1) + -1 - 1) / -1 else 0) else (if (n : Int) - 1 > -1 then ((n : Int) - 1 - -1 - -1 - 1) / (- -1) else 0)).toNat = n := by
      rw [if_neg (by decide)]
      show (if (n : Int) - 1 > -1 then ((n : Int) - 1 - -1 - -1 - 1) / 1 else 0).toNat = n
      rw [Int.ediv_one]
      split <;> omega
    show (List.range (if (-1 : Int) > 0 then _ else _ : Int).toNat).map _ = _
    rw [hc]
    refine List.map_congr_left fun k hk => ?_
    have := List.mem_range.mp hk
    omega
  unfold pickV
  rw [h, b, e, List.filterMap_map]
  have g : ∀ (m : Nat), m ≤ n → List.filterMap ((fun x => xs[x]?) ∘ fun i => n - 1 - i) (List.range m) = (List.range m).map fun i => xs.getD (n - 1 - i) .non := fun m => by
    induction m with
    | zero => exact fun _ => rfl
    | succ m ih =>
      intro hm
      rw [List.range_succ, List.filterMap_append, List.map_append, ih (by omega)]
      have l : n - 1 - m < xs.length := by omega
      have e1 : xs[n - 1 - m]? = some xs[n - 1 - m] := List.getElem?_eq_getElem l
      simp [Function.comp, e1, List.getD]
  exact g n (Nat.le_refl _)
/-- what stood when so many were told -/
def StL (K : PySem.W.Frag) (H : Hp) (S : List Addr) (us : List V) (rs : List Row) : Prop := ∀ i, i ≤ rs.length → ∃ L zs, us[i]? = some (.ref L) ∧ L ∉ S ∧ H L = some (.lst zs) ∧ DpAll K H zs (entsD (rs.take i))
theorem noL_ents (rs : List Row) : noLAll (entsD rs) := by
  rw [show entsD rs = (entS (lastF rs)).map entD from entsL_eq _]
  exact noL_map (f := entD) noL_en _
theorem StL.sm {H H' : Hp} {S T : List Addr} {us : List V} {rs : List Row} (h : StL K H S us rs) (s : Sm T H H') (nt : NT T H) (sub : ∀ x ∈ T, x ∈ S) : StL K H' S us rs := fun i hi => by
  obtain ⟨L, zs, h1, h2, h3, h4⟩ := h i hi
  exact ⟨L, zs, h1, h2, sm_at s (fun z => h2 (sub _ z)) h3, dpAll_nt h4 (noL_ents _) s nt⟩

def spUD (K : PySem.W.Frag) (C : Addr) : Sp := fun vs H Q _ => ∃ (p tl SL : Addr) (v1 v2 v3 v4 : V) (sl : Int) (us : List V) (ts : List Turn), vs = [.ref p, .ref SL] ∧ BkAt K C H p v1 v2 v3 v4 sl tl (ts.map rowOf) ∧ H SL = some (.lst us) ∧ SL ≠ tl ∧ us.length = ts.length + 1 ∧ ts.length ≤ 900 ∧ StL K H [tl] us (ts.map rowOf) ∧ (∀ t ∈ ts, ∀ d, t.d = some d → DeedOk d) ∧ (∀ H', Sm [tl] H H' → Q (.bl true) H')
abbrev s__law_undone : Stmt := topS 19
def n__law_undone : List Str := ["_law_book", "_law_stands", "_law_due"]
theorem sc__law_undone : FnScope n__law_undone ["_law_book", "_law_stands"] (defScope s__law_undone) := ⟨rfl, rfl, rfl, by decide +kernel, rfl, by decide +kernel, by decide +kernel⟩
theorem ok_ud {C CS f : Addr} {fd : FuncData} {k : Nat} (F : Fun K "_law_undone" "_law_undone" s__law_undone f fd) (T : Txt mg) (O : BkC P w K mg base C CS) (len_Book : Own P w K mg base 2 C "__len__" (spBL K C)) : FnOk P w K mg base CX0 (k + 6) f fd ["_law_book", "_law_stands"] (spUD K C) := by
  refine F.ok sc__law_undone (fun vs H Q E h => ?_) (fun cdv A outer s H vs Q E hr h => ?_)
  · obtain ⟨p, tl, SL, v1, v2, v3, v4, sl, us, ts, rfl, _⟩ := h
    rfl
  · obtain ⟨p, tl, SL, v1, v2_, v3, v4, sl, us, ts, rfl, M, hS, St, lu, lr, stl, dk, q⟩ := h
    have nd := sc__law_undone.nd
    have hu64 := hr.units
    have m_Book_undo := O.undo
    have m_Book_entries := O.ent
    let CBook := C
    /- 0 _law_book, 1 _law_stands, 2 _law_due -/
    refine ⟨_, (pss_cons (ps_for PassesOwn.never rfl (ki_list (K := K) (pe_stepF (K := K) (pv 1) (po_some (pe_un un_neg pe_int)) (po_some (pe_un un_neg pe_int)))) (pg_name (i := 2) nd rfl (.inl rfl))
          (pss_one (ps_if ((pw_or (pt_cmpR op_notBl (pe_omt0 m_Book_undo hr (by omega) (pv 0)) pe_bl (nomark _)) (pw_or1 (pt_cmpR (ko_ne (K := K) hu64) (pe_omt0 m_Book_entries hr (by omega) (pv 0)) (pv 2) (nomark _))))).pt
              pss_never
              pss_nil)))
      (pss_one (ps_ret (pe_and (pe_cmpR op_isBl (pe_omt0 m_Book_undo hr (by omega) (pv 0)) pe_bl (nomark _)) (pe_one (pe_cmpR op_eq (pe_callB (kc_lenI len_Book hr (by omega)) (by rfl) T.len PySem.boot_len (pa_cons (pv 0) pa_nil)) pe_int (nomark _))))))), ?_⟩
    have no : ∀ {m : Str}, (m == ("palette" : Str)) = false → (m == ("kinds" : Str)) = false → (m == ("teams" : Str)) = false → (m == ("pots" : Str)) = false → (m == ("slots" : Str)) = false → (m == ("told" : Str)) = false → (bkF v1 v2_ v3 v4 sl tl).lookup m = none := fun a b c d e f => bk_no a b c d e f
    refine ⟨_, rfl, 2, rfl, _, rfl, 1, rfl, _, rfl, -1, rfl, (by decide), SL, us, rfl, SqL.of hS, fun Z nZ => ?_⟩
    have hZ : upd H Z (.lst (pickV us (some (-2)) (some (-1)))) Z = some (.lst ((List.range ts.length).map fun i => us.getD (ts.length - 1 - i) .non)) := by rw [upd_same, pick_back lu]
    have sZ := same_upd (o := .lst (pickV us (some (-2)) (some (-1)))) nZ
    obtain ⟨lsx, hl0, _⟩ := M.li
    have Zt : Z ≠ tl := fun e => by rw [e, hl0] at nZ; cases nZ
    have M := M.same sZ
    have stl := stl.sm (T := []) (sm_of sZ) (fun x hx => by cases hx) (fun x hx => by cases hx)
    have s0 : Sm [tl] H (upd H Z (.lst (pickV us (some (-2)) (some (-1))))) := sm_of sZ
    generalize upd H Z (.lst (pickV us (some (-2)) (some (-1)))) = H1 at hZ M stl s0 ⊢
    have lrs : (ts.map rowOf).length ≤ 1000 := by rw [List.length_map]; omega
    refine ⟨Z, rfl, ⟨_, SqL.of hZ⟩, ?_⟩
    refine for_it (walk_list (xs := (List.range ts.length).map fun i => us.getD (ts.length - 1 - i) .non)) (fun i σ Hx => ∃ v2, σ = [some (.ref p), some (.ref SL), v2] ∧ Sm [tl] H Hx ∧ Hx Z = some (.lst ((List.range ts.length).map fun i => us.getD (ts.length - 1 - i) .non)) ∧ BkAt K C Hx p v1 v2_ v3 v4 sl tl ((ts.take (ts.length - i)).map rowOf) ∧ StL K Hx [tl] us (ts.map rowOf)) ⟨_, rfl, s0, hZ, by rw [Nat.sub_zero, List.take_length]; exact M, stl⟩ (fun i σ Hx _ h => by obtain ⟨_, _, _, hZ, _⟩ := h; exact SqL.of hZ) ?_ ?_
    · clear M hZ s0 stl
      rintro i y σ Ha Hb hi ⟨w2, rfl, s0, hZ, M, stl⟩ ⟨rfl, gy⟩
      rw [List.length_map, List.length_range] at hi
      rw [List.getElem?_map, List.getElem?_range hi] at gy
      obtain ⟨L, zs, g1, g2, g3, g4⟩ := stl (ts.length - 1 - i) (by rw [List.length_map]; omega)
      have ey : y = .ref L := by
        have e1 : us.getD (ts.length - 1 - i) .non = y := Option.some.inj gy
        rw [← e1, List.getD, g1]
        rfl
      subst ey
      obtain ⟨dxp, hp⟩ := M.ob
      have lt : (ts.take (ts.length - i)).length = ts.length - i := by rw [List.length_take]; omega
      have ne : (ts.take (ts.length - i)).map rowOf ≠ [] := fun z => by
        have := congrArg List.length z
        rw [List.length_map, lt] at this
        simp at this
        omega
      refine ⟨_, rfl, p, dxp, _, rfl, hp, no (by decide +kernel) (by decide +kernel) (by decide +kernel) (by decide +kernel) (by decide +kernel) (by decide +kernel), p, tl, v1, v2_, v3, v4, sl, _, rfl, M, fun z => absurd z ne, fun _ Hc sc Mc => ?_⟩
      obtain ⟨_, hla, _⟩ := M.li
      have stl := stl.sm sc (lst_nt hla) (fun x hx => hx)
      have g3 := sm_at sc g2 g3
      have g4 := dpAll_nt g4 (noL_ents _) sc (lst_nt hla)
      have hZ := sm1_at sc Zt hZ
      have s0 := s0.trans sc
      refine ⟨true, true, rfl, rfl, _, rfl, iteF ?_⟩
      have et : ((ts.take (ts.length - i)).map rowOf).dropLast = (ts.take (ts.length - (i + 1))).map rowOf := by
        rw [← List.map_dropLast, List.dropLast_eq_take, lt, List.take_take, Nat.min_eq_left (by omega)]
        congr 2
      rw [et] at Mc
      obtain ⟨dxc, hpc⟩ := Mc.ob
      have lc : ((ts.take (ts.length - (i + 1))).map rowOf).length ≤ 1000 := by rw [List.length_map, List.length_take]; omega
      refine ⟨_, rfl, p, dxc, _, rfl, hpc, no (by decide +kernel) (by decide +kernel) (by decide +kernel) (by decide +kernel) (by decide +kernel) (by decide +kernel), p, tl, v1, v2_, v3, v4, sl, _, rfl, Mc, lc, fun Hd R us2 sd nR hR dR => ?_⟩
      have e2 : (ts.map rowOf).take (ts.length - 1 - i) = (ts.take (ts.length - (i + 1))).map rowOf := by
        rw [List.map_take]
        congr 1
        omega
      rw [e2] at g4
      obtain ⟨mg_, hg⟩ := ents_gd (ts := ts.take (ts.length - (i + 1))) (fun t ht => dk t (List.mem_of_mem_take ht))
      have dep := ents_depth ((ts.take (ts.length - (i + 1))).map rowOf)
      have sh := gd_shaped (m := mg_) hg (by omega)
      refine ⟨_, rfl, .list (entsD ((ts.take (ts.length - (i + 1))).map rowOf)), .list (entsD ((ts.take (ts.length - (i + 1))).map rowOf)), .lst (SqL.of hR) dR, .lst (SqL.of (sd _ _ g3)) (dpAll_same sd g4), sh, sh, _, rfl, ?_⟩
      rw [SeqAt.eqv_refl _ (gd_lay _ hg)]
      refine iteF ⟨_, rfl, s0.trans (sm_of sd), sd _ _ hZ, Mc.same sd, stl.sm (T := []) (sm_of sd) (fun x hx => by cases hx) (fun x hx => by cases hx)⟩
    · rintro σ He ⟨w2, rfl, s0, hZ', M', stl'⟩
      rw [List.length_map, List.length_range, Nat.sub_self] at M'
      obtain ⟨dxp, hp⟩ := M'.ob
      refine ⟨_, rfl, p, dxp, _, rfl, hp, no (by decide +kernel) (by decide +kernel) (by decide +kernel) (by decide +kernel) (by decide +kernel) (by decide +kernel), p, tl, v1, v2_, v3, v4, sl, _, rfl, M', fun _ => ?_, fun z => absurd (by rw [List.take_zero]; rfl) z⟩
      refine ⟨false, false, rfl, rfl, _, rfl, ?_⟩
      rw [decide_eq_true rfl, if_pos rfl]
      refine ⟨_, rfl, p, dxp, _, rfl, hp, p, tl, v1, v2_, v3, v4, sl, _, rfl, M', (by rw [List.take_zero]; decide), fun Hd sd => ⟨_, rfl, ?_, ?_⟩⟩
      · have := ents_len ((ts.take 0).map rowOf)
        rw [List.take_zero] at this ⊢
        exact Nat.lt_of_le_of_lt this (by decide)
      · refine ⟨rfl, ?_⟩
        have : (entsD ((ts.take 0).map rowOf)).length = 0 := by
          have := ents_len ((ts.take 0).map rowOf)
          rw [List.take_zero] at this ⊢
          exact Nat.le_zero.mp this
        rw [this]
        have e : decide (V.int ((0 : Nat) : Int) = V.int 0) = true := by decide
        rw [e]
        exact q _ (s0.trans (sm_of sd))

end
end Pot

namespace Pot
open PySem PySem.Spec PyProof.Rows L2
section
variable {P : Program} {w : World} {K : PySem.W.Frag} {mg : Str → Option Value} {base : Heap}
/-! ### a Book made anew by its entries -/
theorem putR_new {l : List Row} {r : Row} (h : ∀ x ∈ l, x.1 ≠ r.1) : putR l r = l ++ [r] := by
  unfold putR
  rw [if_neg]
  intro c
  obtain ⟨x, hx, e⟩ := List.any_eq_true.mp c
  exact h x hx (of_decide_eq_true e)
theorem putR_last {l : List Row} {r r' : Row} (h : ∀ x ∈ l, x.1 ≠ r.1) (e : r.1 = r'.1) : putR (l ++ [r]) r' = l ++ [r'] := by
  unfold putR
  rw [if_pos, List.map_append]
  · have e1 : (l.map fun x => if x.1 = r'.1 then r' else x) = l := by
      have : (l.map fun x => if x.1 = r'.1 then r' else x) = l.map id := List.map_congr_left fun x hx => by
        rw [if_neg (by rw [← e]; exact h x hx)]
        rfl
      rw [this, List.map_id]
    rw [e1]
    show l ++ [if r.1 = r'.1 then r' else r] = _
    rw [if_pos e]
  · exact List.any_eq_true.mpr ⟨r, by simp, decide_eq_true e⟩
theorem lastF_lt {rs : List Row} {c : Int} (h : ∀ r ∈ rs, r.1 < c) : ∀ x ∈ lastF rs, x.1 ≠ c := fun x hx e => by
  have := h x (mem_lastF hx)
  omega
theorem next_snoc {rs : List Row} {c : Int} (o : Option (Int × Deed)) (h : Next rs c) : Next (rs ++ [(c, o)]) (c + 1) := by
  refine ⟨fun r hr => ?_, .inr ⟨(c, o), by simp, by show c = c + 1 - 1; omega⟩⟩
  rcases List.mem_append.mp hr with hr | hr
  · have := h.1 r hr
    omega
  · rw [List.mem_singleton.mp hr]
    show c < c + 1
    omega
theorem next_again {rs : List Row} {c : Int} (o o' : Option (Int × Deed)) (h : Next rs c) : Next ((rs ++ [(c, o)]) ++ [(c, o')]) (c + 1) := by
  refine ⟨fun r hr => ?_, .inr ⟨(c, o'), by simp, by show c = c + 1 - 1; omega⟩⟩
  rcases List.mem_append.mp hr with hr | hr
  · exact (next_snoc o h).1 r hr
  · rw [List.mem_singleton.mp hr]
    show c < c + 1
    omega
theorem entF_app (a b : List Row) : entF (a ++ b) = entF a ++ entF b := List.filterMap_append ..
/-- an entry more -/
theorem reb_enter {rs : List Row} {c h : Int} {d : Deed} (n : Next rs c) : entF (lastF (rs ++ [(c, some (h, d))])) = entF (lastF rs) ++ [(h, c, d)] := by
  rw [lastF_snoc, putR_new (lastF_lt n.1), entF_app]
  rfl
/-- one more, struck again -/
theorem reb_strike {rs : List Row} {c h : Int} {d : Deed} (n : Next rs c) : entF (lastF ((rs ++ [(c, some (h, d))]) ++ [(c, none)])) = entF (lastF rs) := by
  rw [lastF_snoc, lastF_snoc, putR_new (lastF_lt n.1), putR_last (r := (c, some (h, d))) (r' := (c, none)) (lastF_lt n.1) rfl, entF_app]
  exact List.append_nil _
/-- the greatest that stands is the one just entered -/
theorem reb_max {rs : List Row} {c h m : Int} {d : Deed} (n : Next rs c) (mm : m ∈ (entF (lastF (rs ++ [(c, some (h, d))]))).map fun e => e.2.1) (le : ∀ y ∈ (entF (lastF (rs ++ [(c, some (h, d))]))).map fun e => e.2.1, y ≤ m) : m = c := by
  rw [reb_enter n, List.map_append] at mm le
  have h1 : c ≤ m := le c (List.mem_append.mpr (.inr (by simp)))
  rcases List.mem_append.mp mm with h2 | h2
  · obtain ⟨e, he, rfl⟩ := List.mem_map.mp h2
    have := n.1 _ (mem_lastF (entF_mem he))
    have : e.2.1 < c := this
    omega
  · simpa using h2
theorem dl_pairI {β : Type} (enc : β → PyData) (l : List β) : (l.mergeSort (PySem.W.dataLe false enc)).Pairwise fun a b => PySem.W.dataLt (enc b) (enc a) = false := by
  have T := PySem.W.sortLe_total (PyProof.Rows.listOrd PyProof.Rows.itemOrd) false fun b : β => PySem.W.keyToks (enc b)
  have h := List.pairwise_mergeSort (le := PySem.W.dataLe false enc) (fun a b c h1 h2 => T.trans a b c h1 h2) (fun a b => by
    rw [Bool.or_eq_true]; exact T.total a b) l
  refine h.imp fun {a b} e => ?_
  rw [PySem.W.dataLe_eq] at e
  simpa using e
def entLt (a b : Int × Int × Deed) : Prop := a.1 < b.1 ∨ (a.1 = b.1 ∧ a.2.1 < b.2.1)
theorem ent_lt {a b : Int × Int × Deed} (h : PySem.W.dataLt (entD b) (entD a) = false) (ne : a.2.1 ≠ b.2.1) : entLt a b := by
  unfold entD at h
  rw [PySem.W.dataLt_tuple, PySem.W.dataLt_cons rfl] at h
  by_cases c : b.1 = a.1
  · rw [if_pos (by rw [c]; simp [PyData.eqv]), PySem.W.dataLt_cons rfl, if_neg (by simp [PyData.eqv]; omega), PySem.W.dataLt_int] at h
    have := of_decide_eq_false h
    exact .inr ⟨c.symm, by omega⟩
  · rw [if_neg (by simp [PyData.eqv]; omega), PySem.W.dataLt_int] at h
    have := of_decide_eq_false h
    exact .inl (by omega)
theorem entS_lt {l : List Row} (nd : (l.map fun r => r.1).Nodup) : (entS l).Pairwise entLt := by
  have h := dl_pairI entD (entF l)
  have n2 : (entS l).Pairwise fun a b => a.2.1 ≠ b.2.1 := by
    have n1 : ((entF l).map fun e => e.2.1).Nodup := by
      clear h
      induction l with
      | nil => exact List.nodup_nil
      | cons r m ih =>
        obtain ⟨a1, a2⟩ := List.nodup_cons.mp nd
        have ih := ih a2
        obtain ⟨n, o⟩ := r
        cases o with
        | none => exact ih
        | some e =>
          refine List.nodup_cons.mpr ⟨fun z => a1 ?_, ih⟩
          obtain ⟨x, hx, ex⟩ := List.mem_map.mp z
          exact List.mem_map.mpr ⟨_, entF_mem hx, ex⟩
    have p : ((entS l).map fun e => e.2.1).Nodup := ((List.mergeSort_perm _ _).map _).nodup_iff.mpr n1
    unfold List.Nodup at p
    rw [List.pairwise_map] at p
    exact p
  exact (h.and n2).imp fun h => ent_lt h.1 h.2
/-- entries that are the same but for their order tell the same -/
theorem entsD_perm {rs ss : List Row} (p : (entF (lastF rs)).Perm (entF (lastF ss))) : entsD rs = entsD ss := by
  have e : entS (lastF rs) = entS (lastF ss) := by
    refine List.Perm.eq_of_pairwise (le := entLt) (fun a b _ _ h1 h2 => ?_) (entS_lt (lastF_nodup rs)) (entS_lt (lastF_nodup ss)) (((List.mergeSort_perm _ _).trans p).trans (List.mergeSort_perm _ _).symm)
    exfalso
    rcases h1 with h1 | ⟨h1, h1'⟩ <;> rcases h2 with h2 | ⟨h2, h2'⟩ <;> omega
  rw [show entsD rs = (entS (lastF rs)).map entD from entsL_eq _, show entsD ss = (entS (lastF ss)).map entD from entsL_eq _, e]

end
end Pot

namespace Pot
open PySem PySem.Spec PyProof.Rows L2
section
variable {P : Program} {w : World} {K : PySem.W.Frag} {mg : Str → Option Value} {base : Heap}
/-- one Book as its row of turns -/
structure B1 (K : PySem.W.Frag) (C : Addr) (Hx : Hp) (v1 v2 v3 v4 : V) (sl : Int) (n : Nat) (pt : Addr × Addr) (ts : List Turn) : Prop where
  bk : BkAt K C Hx pt.1 v1 v2 v3 v4 sl pt.2 (ts.map rowOf)
  gd : Good ts
  nm : Num ts
  dk : ∀ t ∈ ts, ∀ d, t.d = some d → DeedOk d
  ln : ts.length ≤ n
theorem B1.same {C : Addr} {H H' : Hp} {v1 v2 v3 v4 : V} {sl : Int} {n : Nat} {pt : Addr × Addr} {ts : List Turn} (h : B1 K C H v1 v2 v3 v4 sl n pt ts) (s : Same H H') : B1 K C H' v1 v2 v3 v4 sl n pt ts := ⟨h.bk.same s, h.gd, h.nm, h.dk, h.ln⟩
theorem B1.mono {C : Addr} {H : Hp} {v1 v2 v3 v4 : V} {sl : Int} {n n' : Nat} {pt : Addr × Addr} {ts : List Turn} (h : B1 K C H v1 v2 v3 v4 sl n pt ts) (l : n ≤ n') : B1 K C H v1 v2 v3 v4 sl n' pt ts := ⟨h.bk, h.gd, h.nm, h.dk, Nat.le_trans h.ln l⟩
/-- all of these are lists -/
def LS (U : List Addr) (H : Hp) : Prop := ∀ x ∈ U, ∃ us, H x = some (.lst us)
theorem LS.nt {U : List Addr} {H : Hp} (h : LS U H) : NT U H := fun x hx ob e => by
  obtain ⟨us, h1⟩ := h x hx
  exact lst_nt h1 x (by simp) ob e
theorem B1.lists {C : Addr} {H H' : Hp} {v1 v2 v3 v4 : V} {sl : Int} {n : Nat} {pt : Addr × Addr} {ts : List Turn} {U : List Addr} (h : B1 K C H v1 v2 v3 v4 sl n pt ts) (s : Sm U H H') (l : LS U H) (n2 : pt.2 ∉ U) : B1 K C H' v1 v2 v3 v4 sl n pt ts :=
  ⟨h.bk.sm s (fun z => by
    obtain ⟨us, h1⟩ := l _ z
    obtain ⟨dx, h2⟩ := h.bk.ob
    rw [h1] at h2; cases h2) n2 l.nt, h.gd, h.nm, h.dk, h.ln⟩
/-- what is kept of a Book: its entries, told_times, len -/
def kD (ts : List Turn) : PyData := .tuple [.list (entsD (ts.map rowOf)), .int ((ts.map rowOf).length : Nat), .int ((entsD (ts.map rowOf)).length : Nat)]
def KR (K : PySem.W.Frag) (H : Hp) (S : List Addr) (v : V) (ts : List Turn) : Prop := ∃ T R us, v = .ref T ∧ SqT K H T [.ref R, .int ((ts.map rowOf).length : Nat), .int ((entsD (ts.map rowOf)).length : Nat)] ∧ R ∉ S ∧ H R = some (.lst us) ∧ DpAll K H us (entsD (ts.map rowOf))
theorem KR.sm {H H' : Hp} {S U : List Addr} {v : V} {ts : List Turn} (h : KR K H S v ts) (s : Sm U H H') (nt : NT U H) (sub : ∀ x ∈ U, x ∈ S) : KR K H' S v ts := by
  obtain ⟨T, R, us, e, h1, h2, h3, h4⟩ := h
  exact ⟨T, R, us, e, sqT_nt h1 s nt, h2, sm_at s (fun z => h2 (sub _ z)) h3, dpAll_nt h4 (noL_ents _) s nt⟩
theorem KR.grow {H : Hp} {S : List Addr} {v : V} {ts : List Turn} {X : Addr} (h : KR K H S v ts) (nX : H X = none) : KR K H (X :: S) v ts := by
  obtain ⟨T, R, us, e, h1, h2, h3, h4⟩ := h
  exact ⟨T, R, us, e, h1, fun z => by
    rcases List.mem_cons.mp z with z | z
    · rw [z, nX] at h3; cases h3
    · exact h2 z, h3, h4⟩
theorem KR.less {H : Hp} {S U : List Addr} {v : V} {ts : List Turn} (h : KR K H S v ts) (sub : ∀ x ∈ U, x ∈ S) : KR K H U v ts := by
  obtain ⟨T, R, us, e, h1, h2, h3, h4⟩ := h
  exact ⟨T, R, us, e, h1, fun z => h2 (sub _ z), h3, h4⟩
theorem KR.dp {H : Hp} {S : List Addr} {v : V} {ts : List Turn} (h : KR K H S v ts) : Dp K H v (kD ts) := by
  obtain ⟨T, R, us, rfl, h1, h2, h3, h4⟩ := h
  exact .tup h1 (.cons (.lst (SqL.of h3) h4) (.cons (.int _) (.cons (.int _) .nil)))
theorem Step.row {rs : List Row} {a b : List Turn} {rs' : List Row} (s : Step rs a rs' b) (ts : List Turn) : ∃ ts', Step rs ts rs' ts' := by
  cases s with
  | pop => exact ⟨_, .pop⟩
  | add t c ok h0 h9 => exact ⟨_, .add t c ok h0 h9⟩
theorem kD_gd {ts : List Turn} (dk : ∀ t ∈ ts, ∀ d, t.d = some d → DeedOk d) : ∃ m, gd m (kD ts) := by
  obtain ⟨m0, h0⟩ := ents_gd dk
  refine gd_all_ex (ds := [.list (entsD (ts.map rowOf)), .int ((ts.map rowOf).length : Nat), .int ((entsD (ts.map rowOf)).length : Nat)]) fun d hd => ?_
  simp only [List.mem_cons, List.not_mem_nil, or_false] at hd
  rcases hd with rfl | rfl | rfl
  · exact ⟨m0, h0⟩
  · exact gd_int _
  · exact gd_int _
theorem kD_depth (ts : List Turn) : (kD ts).depth ≤ 64 := by
  have := ents_depth (ts.map rowOf)
  simp only [kD, PyData.depth, PyData.depthAll] at this ⊢
  omega
def spAP (K : PySem.W.Frag) (C : Addr) : Sp := fun vs H Q _ => ∃ (b SL : Addr) (hv v1 v2 v3 v4 : V) (h : Hall) (sl : Int) (ps : List (Addr × Addr)) (tss : List (List Turn)) (m n : Nat), vs = [.ref b, hv, .ref SL] ∧ Bp H b m ∧ m + 9000 < 2 ^ 40 ∧ n ≤ 500 ∧ Dp K H hv (hallD h) ∧ HallOk h ∧ ps.length = 3 ∧ tss.length = 3 ∧ H SL = some (.lst (ps.map fun p => .ref p.1)) ∧ SL ∉ ps.map (·.2) ∧ b ≠ SL ∧ b ∉ ps.map (·.2) ∧ (ps.map (·.2)).Nodup ∧ (∀ (j : Nat) (p : Addr × Addr) (ts : List Turn), ps[j]? = some p → tss[j]? = some ts → B1 K C H v1 v2 v3 v4 sl n p ts) ∧
  ∀ (H' : Hp) (tss' : List (List Turn)), Bp H' b (m + 600) → Sm (b :: ps.map (·.2)) H H' → tss'.length = 3 → (∀ (j : Nat) (p : Addr × Addr) (ts : List Turn), ps[j]? = some p → tss'[j]? = some ts → B1 K C H' v1 v2 v3 v4 sl (n + 9) p ts) → Q (.bl true) H'
abbrev s__law_apart : Stmt := topS 18
def n__law_apart : List Str := ["_law_box", "_law_hall", "_law_books", "_law_turn", "_law_at", "_law_kept", "_law_behind", "_law_book", "_law_k", "_law_one", "_law_two"]
theorem sc__law_apart : FnScope n__law_apart ["_law_box", "_law_hall", "_law_books"] (defScope s__law_apart) := ⟨rfl, rfl, rfl, by decide +kernel, rfl, by decide +kernel, by decide +kernel⟩
theorem ok_ap {C CS f : Addr} {fd : FuncData} {k : Nat} (F : Fun K "_law_apart" "_law_apart" s__law_apart f fd) (T : Txt mg) (O : BkC P w K mg base C CS) (len_Book : Own P w K mg base 2 C "__len__" (spBL K C)) (c__law_take : Cl P w K mg base 1 "_law_take" spTake) (c__law_told_once : Cl P w K mg base 7 "_law_told_once" (spTO K C)) : FnOk P w K mg base CX0 (k + 8) f fd ["_law_box", "_law_hall", "_law_books"] (spAP K C) := by
  refine F.ok sc__law_apart (fun vs H Q E h => ?_) (fun cdv A outer s H vs Q E hr h => ?_)
  · obtain ⟨b, SL, hv, v1, v2, v3, v4, h, sl, ps, tss, m, n, rfl, _⟩ := h
    rfl
  · obtain ⟨b, SL, hv, v1, v2, v3, v4, h, sl, ps, tss, m, n, rfl, B, hm, hn, dh, okh, lp, lt, hS, St, bS, bt, nd2, bks, q⟩ := h
    have nd := sc__law_apart.nd
    have hu64 := hr.units
    have m_Book_told_times := O.times
    have m_Book_entries := O.ent
    let CBook := C
    /- 0 _law_box, 1 _law_hall, 2 _law_books, 3 _law_turn, 4 _law_at, 5 _law_kept, 6 _law_behind, 7 _law_book, 8 _law_k, 9 _law_one, 10 _law_two -/
    refine ⟨_, (pss_cons (ps_for PassesOwn.never rfl (pi_range1 (by rfl) T.range (pa_cons pe_int pa_nil)) (pg_name (i := 3) nd rfl (.inl rfl))
          (pss_cons (ps_set (i := 4) nd rfl (.inr rfl) (pe_cl c__law_take hr (by omega) (by rfl) (pa_cons (pv 0) (pa_cons (pe_callB (kc_len (K := K)) (by rfl) T.len PySem.boot_len (pa_cons (pv 2) pa_nil)) pa_nil))))
          (pss_cons (ps_setLc (i := 5) (own := [("_law_book", 7)]) rfl nd rfl rfl (sw_true rfl rfl rfl (by decide +kernel)) (ki_list (K := K) (pv 2)) (blkOk_by (N := n__law_apart) (sc := defScope s__law_apart) (by decide +kernel)) (fun _ _ _ _ _ => (pg_name (i := 7) nd rfl (.inl rfl))) (fun _ _ _ _ _ => pts_nil) (fun _ _ _ _ _ => (pe_tup (pa_cons (pe_omt0 m_Book_entries hr (by omega) (pv 7)) (pa_cons (pe_omt0 m_Book_told_times hr (by omega) (pv 7)) (pa_cons (pe_callB (kc_lenI len_Book hr (by omega)) (by rfl) T.len PySem.boot_len (pa_cons (pv 7) pa_nil)) pa_nil))))))
          (pss_cons (ps_expr (pe_cl c__law_told_once hr (by omega) (by rfl) (pa_cons (pv 0) (pa_cons (pv 1) (pa_cons (pe_ix (kx_list (K := K)) (pv 2) (pv 4) (fun _ _ => rfl)) (pa_cons (pe_lst pa_nil) pa_nil))))))
          (pss_cons (ps_setLc (i := 6) (own := [("_law_book", 7)]) rfl nd rfl rfl (sw_true rfl rfl rfl (by decide +kernel)) (ki_list (K := K) (pv 2)) (blkOk_by (N := n__law_apart) (sc := defScope s__law_apart) (by decide +kernel)) (fun _ _ _ _ _ => (pg_name (i := 7) nd rfl (.inl rfl))) (fun _ _ _ _ _ => pts_nil) (fun _ _ _ _ _ => (pe_tup (pa_cons (pe_omt0 m_Book_entries hr (by omega) (pv 7)) (pa_cons (pe_omt0 m_Book_told_times hr (by omega) (pv 7)) (pa_cons (pe_callB (kc_lenI len_Book hr (by omega)) (by rfl) T.len PySem.boot_len (pa_cons (pv 7) pa_nil)) pa_nil))))))
          (pss_one (ps_if (pt_not (pt_val (pe_callB (kc_all (K := K)) (by rfl) T.all (by decide +kernel) (pa_cons (pe_lc (own := [("_law_k", 8), ("_law_one", 9), ("_law_two", 10)]) rfl nd (ki_ez (K := K) (by rfl) T.enumerate (by rfl) T.zip (pa_cons (pv 5) (pa_cons (pv 6) pa_nil))) (blkOk_by (N := n__law_apart) (sc := defScope s__law_apart) (by decide +kernel)) (fun _ _ _ _ _ => (kg_tup (K := K) (n := 2) (pgs_cons (pg_name (i := 8) nd rfl (.inl rfl)) (pgs_cons (kg_tup (K := K) (n := 2) (pgs_cons (pg_name (i := 9) nd rfl (.inl rfl)) (pgs_cons (pg_name (i := 10) nd rfl (.inl rfl)) pgs_nil))) pgs_nil)))) (fun _ _ _ _ _ => (pts_one (pt_cmpR op_ne (pv 8) (pv 4) (nomark _)))) (fun _ _ _ _ _ => (pe_cmpR (ko_eq (K := K) hu64) (pv 9) (pv 10) (nomark _)))) pa_nil))))
              pss_never
              pss_nil)))))))
      (pss_one (ps_ret pe_bl))), ?_⟩
    have no : ∀ {tl : Addr} {m : Str}, (m == ("palette" : Str)) = false → (m == ("kinds" : Str)) = false → (m == ("teams" : Str)) = false → (m == ("pots" : Str)) = false → (m == ("slots" : Str)) = false → (m == ("told" : Str)) = false → (bkF v1 v2 v3 v4 sl tl).lookup m = none := fun a b c d e f => bk_no a b c d e f
    have ask : ∀ {w3 w4 w5 w6 w7 w8 w9 w10 : Option V} {Hx : Hp} {tss : List (List Turn)} {N : Nat} {S : List Addr} {Q0 : VK}, tss.length = 3 → N ≤ 900 → (∀ (j : Nat) (p : Addr × Addr) (ts : List Turn), ps[j]? = some p → tss[j]? = some ts → B1 K C Hx v1 v2 v3 v4 sl N p ts) → Hx SL = some (.lst (ps.map fun p => .ref p.1)) → LS S Hx →
        (∀ (X : Addr) (Hz : Hp) (vs : List V), Same Hx Hz → Hx X = none → Hz X = some (.lst vs) → vs.length = 3 → (∀ (j : Nat) (ts : List Turn), tss[j]? = some ts → ∃ v, vs[j]? = some v ∧ KR K Hz (X :: S) v ts) → Q0 (.ref X) Hz) →
        (tLc (iList K (tVar 2)) (gName 7) tYes (tTup (tCons (tMeth C "entries" (spBN K C) [] E0 (tVar 7) tNil) (tCons (tMeth C "told_times" (spBT K C) [] E0 (tVar 7) tNil) (tCons (tCB (rLenI C (spBL K C) E0) (tCons (tVar 7) tNil)) tNil)))) (List.map (fun x => x.snd) [(("_law_book" : Str), 7)])) [some (.ref b), some hv, some (.ref SL), w3, w4, w5, w6, w7, w8, w9, w10] Hx Q0 := by
      intro w3 w4 w5 w6 w7 w8 w9 w10 Hx tss N S Q0 lt hN bks hSx ls q0
      refine ⟨_, rfl, SL, rfl, ⟨_, SqL.of hSx⟩, fun X nX => ?_⟩
      refine lc_it (walk_list (xs := ps.map fun p => V.ref p.1)) (fun i Hz => Same Hx Hz ∧ ∃ vs, Hz X = some (.lst vs) ∧ vs.length = i ∧ ∀ (j : Nat) (ts : List Turn), j < i → tss[j]? = some ts → ∃ v, vs[j]? = some v ∧ KR K Hz (X :: S) v ts) ⟨same_upd nX, [], upd_same, rfl, fun _ _ h => absurd h (Nat.not_lt_zero _)⟩ (fun _ _ _ h => SqL.of (h.1 _ _ hSx)) ?_ ?_
      · rintro i y Ha Hb hi ⟨sx, vs, hX, lv, kr⟩ ⟨rfl, gy⟩
        rw [List.getElem?_map] at gy
        obtain ⟨p, gp, rfl⟩ := Option.map_eq_some_iff.mp gy
        have hi3 : i < 3 := by rw [← lp]; exact (List.getElem?_eq_some_iff.mp gp).1
        obtain ⟨ts, gt⟩ : ∃ ts, tss[i]? = some ts := ⟨_, List.getElem?_eq_getElem (by omega)⟩
        have D := (bks i p ts gp gt).same sx
        have lr : (ts.map rowOf).length ≤ 1000 := by rw [List.length_map]; exact Nat.le_trans D.ln (by omega)
        obtain ⟨dxp, hp⟩ := D.bk.ob
        refine ⟨rfl, tYes_at ?_⟩
        rw [if_pos rfl]
        refine ⟨_, rfl, p.1, dxp, _, rfl, hp, no (by decide +kernel) (by decide +kernel) (by decide +kernel) (by decide +kernel) (by decide +kernel) (by decide +kernel), p.1, p.2, v1, v2, v3, v4, sl, _, rfl, D.bk, lr, fun Hc R us2 sc nR hR dR => ?_⟩
        have D := D.same sc
        refine ⟨_, rfl, p.1, dxp, _, rfl, sc _ _ hp, no (by decide +kernel) (by decide +kernel) (by decide +kernel) (by decide +kernel) (by decide +kernel) (by decide +kernel), p.1, p.2, v1, v2, v3, v4, sl, _, rfl, D.bk, ?_⟩
        refine ⟨_, rfl, p.1, dxp, _, rfl, sc _ _ hp, p.1, p.2, v1, v2, v3, v4, sl, _, rfl, D.bk, lr, fun Hd sd => ⟨_, rfl, Nat.lt_of_le_of_lt (ents_len _) (Nat.lt_of_le_of_lt lr (by decide)), ?_⟩⟩
        refine ⟨(by show 3 ≤ sizeLine; decide), fun T_ nT => ?_⟩
        have s1 := (sc.trans sd).trans (same_upd (o := .tup [.ref R, .int ((ts.map rowOf).length : Nat), .int ((entsD (ts.map rowOf)).length : Nat)]) nT)
        have hT : upd Hd T_ (.tup [.ref R, .int ((ts.map rowOf).length : Nat), .int ((entsD (ts.map rowOf)).length : Nat)]) T_ = some (.tup [.ref R, .int ((ts.map rowOf).length : Nat), .int ((entsD (ts.map rowOf)).length : Nat)]) := upd_same
        have s2 := sd.trans (same_upd (o := .tup [.ref R, .int ((ts.map rowOf).length : Nat), .int ((entsD (ts.map rowOf)).length : Nat)]) nT)
        generalize upd Hd T_ (.tup [.ref R, .int ((ts.map rowOf).length : Nat), .int ((entsD (ts.map rowOf)).length : Nat)]) = H4 at s1 hT s2
        have RX : R ∉ X :: S := fun z => by
          rcases List.mem_cons.mp z with z | z
          · rw [z, hX] at nR; cases nR
          · obtain ⟨u, hu⟩ := ls _ z
            rw [sx _ _ hu] at nR; cases nR
        have kn : KR K H4 (X :: S) (.ref T_) ts := ⟨T_, R, us2, rfl, SqT.of hT, RX, s2 _ _ hR, dpAll_same s2 dR⟩
        have hX4 := s1 _ _ hX
        have sw := sm_wr (H := H4) (S := [X]) (p := X) (o := .lst (vs ++ [.ref T_])) (by simp)
        have ntX : NT [X] H4 := lst_nt hX4
        refine ⟨vs, hX4, by rw [sizeLine_eq]; omega, same_put (sx.trans s1) nX, vs ++ [.ref T_], upd_same, by rw [List.length_append, lv]; rfl, ?_⟩
        intro j ts' hj gj
        by_cases ji : j < i
        · obtain ⟨v, gv, kv⟩ := kr j ts' ji gj
          exact ⟨v, by rw [List.getElem?_append_left (by omega)]; exact gv, (kv.sm (U := []) (sm_of s1) (fun x hx => by cases hx) (fun x hx => by cases hx)).sm sw ntX (by simp)⟩
        · have ej : j = i := by omega
          subst ej
          rw [gt] at gj
          cases gj
          exact ⟨.ref T_, by rw [List.getElem?_append_right (by omega), lv, Nat.sub_self]; rfl, kn.sm sw ntX (by simp)⟩
      · rintro Hz ⟨sz, vs, hX, lv, kr⟩
        rw [List.length_map, lp] at lv kr
        exact q0 X Hz vs sz nX hX lv fun j ts g => kr j ts (by rw [← lt]; exact (List.getElem?_eq_some_iff.mp g).1) g
    refine ⟨_, rfl, (by decide), (by decide), ?_⟩
    refine for_it walk_range (fun i σ Hx => ∃ (tss : List (List Turn)) (u3 u4 u5 u6 u7 u8 u9 u10 : Option V), σ = [some (.ref b), some hv, some (.ref SL), u3, u4, u5, u6, u7, u8, u9, u10] ∧ tss.length = 3 ∧ (∀ (j : Nat) (p : Addr × Addr) (ts : List Turn), ps[j]? = some p → tss[j]? = some ts → B1 K C Hx v1 v2 v3 v4 sl (n + i) p ts) ∧ Bp Hx b (m + 61 * i) ∧ Sm (b :: ps.map (·.2)) H Hx ∧ Dp K Hx hv (hallD h)) ⟨tss, _, _, _, _, _, _, _, _, rfl, lt, bks, B, Same.refl _, dh⟩ (fun _ _ _ _ _ => trivial) ?_ ?_
    · clear dh B bks lt tss
      rintro i x σ H0 Hy hi ⟨tss, u3, u4, u5, u6, u7, u8, u9, u10, rfl, lt, bks, B, s0, dh⟩ ⟨rfl, rfl⟩
      have hi9 : i < 9 := hi
      have SU : SL ∉ b :: ps.map (·.2) := fun z => by
        rcases List.mem_cons.mp z with z | z
        · exact bS z.symm
        · exact St z
      have hSy := sm_at s0 SU hS
      refine ⟨_, rfl, _, rfl, _, _, rfl, .inl ⟨_, SqL.of hSy, rfl⟩, b, _, _, rfl, (by rw [List.length_map, lp]; decide), (by rw [List.length_map, lp]; decide), B, by omega, fun H1 at_ a0 a3 B1_ sm1 => ?_⟩
      obtain ⟨aN, rfl⟩ : ∃ a : Nat, at_ = (a : Int) := ⟨at_.toNat, by omega⟩
      rw [List.length_map, lp] at a3
      have aN3 : aN < 3 := by omega
      have bT : ∀ {j : Nat} {p : Addr × Addr}, ps[j]? = some p → p.2 ≠ b := fun g z => bt (z ▸ List.mem_map.mpr ⟨_, List.mem_of_getElem? g, rfl⟩)
      have lb : LS [b] Hy := fun x hx => by
        obtain ⟨_, _, _, hb, _⟩ := B
        rw [List.mem_singleton.mp hx]; exact ⟨_, hb⟩
      have bks1 : ∀ (j : Nat) (p : Addr × Addr) (ts : List Turn), ps[j]? = some p → tss[j]? = some ts → B1 K C H1 v1 v2 v3 v4 sl (n + i) p ts := fun j p ts g1 g2 => (bks j p ts g1 g2).lists sm1 lb (by simp [bT g1])
      have dh := dp_nt dh (noL_hall h) sm1 lb.nt
      have hS1 := sm_at sm1 (by simp [bS.symm]) hSy
      have s01 : Sm (b :: ps.map (·.2)) H H1 := s0.trans (sm_mono (by simp) sm1)
      have ls1 : LS (b :: ps.map (·.2)) H1 := fun x hx => by
        rcases List.mem_cons.mp hx with z | z
        · obtain ⟨_, _, _, hb, _⟩ := B1_
          rw [z]; exact ⟨_, hb⟩
        · obtain ⟨p, hp, rfl⟩ := List.mem_map.mp z
          obtain ⟨j, gj⟩ := List.mem_iff_getElem?.mp hp
          have jl : j < 3 := by rw [← lp]; exact (List.getElem?_eq_some_iff.mp gj).1
          obtain ⟨us, h1, _⟩ := (bks1 j p _ gj (List.getElem?_eq_getElem (by omega))).bk.li
          exact ⟨us, h1⟩
      clear B sm1 bks hSy s0 lb
      show gName 4 _ _ _ _
      simp only [gName, List.set]
      unfold tSeq tAsg
      refine ask lt (by omega) bks1 hS1 ls1 fun X H2 vs s2 nX hX lv kr => ?_
      have bks2 : ∀ (j : Nat) (p : Addr × Addr) (ts : List Turn), ps[j]? = some p → tss[j]? = some ts → B1 K C H2 v1 v2 v3 v4 sl (n + i) p ts := fun j p ts g1 g2 => (bks1 j p ts g1 g2).same s2
      have dh := dp_same s2 dh
      have B2 := B1_.same s2
      have hS2 := s2 _ _ hS1
      have s02 := s01.trans (sm_of s2)
      have Xb : X ≠ b := B1_.ne nX
      have Xp : ∀ {p : Addr × Addr}, p.2 ∈ ps.map (·.2) → X ≠ p.2 := fun hp z => by
        obtain ⟨us, h1⟩ := ls1 _ (List.mem_cons_of_mem _ hp)
        rw [← z, nX] at h1; cases h1
      clear bks1 hS1 s01 B1_ ls1 s2 nX
      obtain ⟨pa, ga⟩ : ∃ p, ps[aN]? = some p := ⟨_, List.getElem?_eq_getElem (by omega)⟩
      obtain ⟨ta, gta⟩ : ∃ t, tss[aN]? = some t := ⟨_, List.getElem?_eq_getElem (by omega)⟩
      have D := bks2 aN pa ta ga gta
      simp only [gName, List.set]
      refine ⟨_, rfl, _, rfl, _, rfl, _, rfl, SL, _, _, _, rfl, rfl, SqL.of hS2, atI_nat (by rw [List.getElem?_map, ga]; rfl), (by decide), fun TL nTL => ?_⟩
      have sT := same_upd (o := .lst []) nTL
      have hT : upd H2 TL (.lst []) TL = some (.lst []) := upd_same
      have kr3 : ∀ (j : Nat) (ts : List Turn), tss[j]? = some ts → ∃ v, vs[j]? = some v ∧ KR K (upd H2 TL (.lst [])) (TL :: X :: b :: ps.map (·.2)) v ts := fun j ts g => by
        obtain ⟨v, g1, g2⟩ := kr j ts g
        exact ⟨v, g1, (g2.grow nTL).sm (U := []) (sm_of sT) (fun x hx => by cases hx) (fun x hx => by cases hx)⟩
      obtain ⟨lsa, hla, _⟩ := D.bk.li
      have taT : pa.2 ≠ TL := fun z => by rw [z, nTL] at hla; cases hla
      have ST : SL ≠ TL := fun z => by rw [z, nTL] at hS2; cases hS2
      have XT : X ≠ TL := fun z => by rw [z, nTL] at hX; cases hX
      have bTL := B2.ne nTL
      have liveT : ∀ (j : Nat) (p : Addr × Addr) (ts : List Turn), ps[j]? = some p → tss[j]? = some ts → p.2 ≠ TL := fun j p ts g1 g2 z => by
        obtain ⟨_, h1, _⟩ := (bks2 j p ts g1 g2).bk.li
        rw [z, nTL] at h1; cases h1
      have D := D.same sT
      have hla := sT _ _ hla
      have bks3 : ∀ (j : Nat) (p : Addr × Addr) (ts : List Turn), ps[j]? = some p → tss[j]? = some ts → B1 K C (upd H2 TL (.lst [])) v1 v2 v3 v4 sl (n + i) p ts := fun j p ts g1 g2 => (bks2 j p ts g1 g2).same sT
      have dh := dp_same sT dh
      have B3 := B2.same sT
      have hS3 := sT _ _ hS2
      have hX3 := sT _ _ hX
      have s03 := s02.trans (sm_of sT)
      clear bks2 B2 hS2 hX kr
      generalize upd H2 TL (.lst []) = H3 at hT kr3 D hla bks3 dh B3 hS3 hX3 s03
      refine ⟨b, pa.1, pa.2, TL, hv, v1, v2, v3, v4, h, sl, [], _, [], _, rfl, B3, by omega, dh, okh, D.bk, hT, .nil, (bT ga).symm, bTL.symm, taT, by rw [List.length_map]; exact Nat.le_trans D.ln (by omega), by decide, rows_nn D.gd, (fun t ht => by cases ht), fun H4 us4 rs4 ts4 B4 s4 M4 hT4 dT4 st => ?_⟩
      obtain ⟨ts2, st2⟩ := st.row ta
      obtain ⟨rfl, g2, n2, dk2, l2⟩ := st2.keeps D.gd D.nm D.dk
      have lsU : LS [b, pa.2, TL] H3 := fun x hx => by
        simp only [List.mem_cons, List.not_mem_nil, or_false] at hx
        rcases hx with z | z | z
        · obtain ⟨_, _, _, hb, _⟩ := B3
          rw [z]; exact ⟨_, hb⟩
        · rw [z]; exact ⟨_, hla⟩
        · rw [z]; exact ⟨_, hT⟩
      have paM : pa.2 ∈ ps.map (·.2) := List.mem_map.mpr ⟨_, List.mem_of_getElem? ga, rfl⟩
      have Spa : SL ≠ pa.2 := fun z => St (z ▸ paM)
      have dh := dp_nt dh (noL_hall h) s4 lsU.nt
      have hS4 := sm_at s4 (by simp [bS.symm, Spa, ST]) hS3
      have s04 : Sm (b :: ps.map (·.2)) H H4 := fun a o e => by
        have e0 := off_mem e
        have aT : a ≠ TL := fun z => by
          have := at_off (s02 a o e)
          rw [z, nTL] at this; cases this
        have e1 := at_off (s03 a o e)
        rw [off_out e0]
        refine sm_at s4 (fun z => ?_) e1
        simp only [List.mem_cons, List.not_mem_nil, or_false] at z
        rcases z with z | z | z
        · exact e0 (by rw [z]; exact List.mem_cons_self)
        · exact e0 (by rw [z]; exact List.mem_cons_of_mem _ paM)
        · exact aT z
      have bks4 : ∀ (j : Nat) (p : Addr × Addr) (ts : List Turn), ps[j]? = some p → (tss.set aN ts2)[j]? = some ts → B1 K C H4 v1 v2 v3 v4 sl (n + (i + 1)) p ts := fun j p ts g1 g2_ => by
        by_cases ja : j = aN
        · subst ja
          rw [ga] at g1
          cases g1
          rw [List.getElem?_set_self (by omega)] at g2_
          cases g2_
          exact ⟨M4, g2, n2, dk2, by have := D.ln; omega⟩
        · rw [List.getElem?_set_ne (fun z => ja z.symm)] at g2_
          have np : p.2 ≠ pa.2 := fun z => ja (by
            have h1 : (ps.map (·.2))[j]? = some p.2 := by rw [List.getElem?_map, g1]; rfl
            have h2 : (ps.map (·.2))[aN]? = some p.2 := by rw [List.getElem?_map, ga, z]; rfl
            have jl : j < (ps.map (·.2)).length := (List.getElem?_eq_some_iff.mp h1).1
            exact (List.getElem?_inj jl nd2).mp (h1.trans h2.symm))
          exact ((bks3 j p ts g1 g2_).lists s4 lsU (by simp [bT g1, np, liveT j p ts g1 g2_])).mono (by omega)
      have lt2 : (tss.set aN ts2).length = 3 := by rw [List.length_set]; exact lt
      have hX4 := sm_at s4 (x := X) (by
        simp only [List.mem_cons, List.not_mem_nil, or_false, not_or]
        exact ⟨Xb, Xp paM, XT⟩) hX3
      have kr4 : ∀ (j : Nat) (ts : List Turn), tss[j]? = some ts → ∃ v, vs[j]? = some v ∧ KR K H4 (TL :: X :: b :: ps.map (·.2)) v ts := fun j ts g => by
        obtain ⟨v, g1, g2⟩ := kr3 j ts g
        refine ⟨v, g1, g2.sm s4 lsU.nt fun x hx => ?_⟩
        simp only [List.mem_cons, List.not_mem_nil, or_false] at hx
        rcases hx with z | z | z
        · rw [z]; simp
        · rw [z]; exact List.mem_cons_of_mem _ (List.mem_cons_of_mem _ (List.mem_cons_of_mem _ paM))
        · rw [z]; simp
      clear bks3 hS3 hX3 B3 kr3 s03 M4 dT4 hT4 st st2 hla D hT liveT
      dsimp only
      refine ask lt2 (by omega) bks4 hS4 (S := []) (fun x hx => by cases hx) fun X2 H5 ws s5 nX2 hX2 lw kw => ?_
      have hX5 := s5 _ _ hX4
      have kr5 : ∀ (j : Nat) (ts : List Turn), tss[j]? = some ts → ∃ v, vs[j]? = some v ∧ KR K H5 (TL :: X :: b :: ps.map (·.2)) v ts := fun j ts g => by
        obtain ⟨v, g1, g2⟩ := kr4 j ts g
        exact ⟨v, g1, g2.sm (U := []) (sm_of s5) (fun x hx => by cases hx) (fun x hx => by cases hx)⟩
      have bks5 : ∀ (j : Nat) (p : Addr × Addr) (ts : List Turn), ps[j]? = some p → (tss.set aN ts2)[j]? = some ts → B1 K C H5 v1 v2 v3 v4 sl (n + (i + 1)) p ts := fun j p ts g1 g2 => (bks4 j p ts g1 g2).same s5
      have B5 := B4.same s5
      have dh := dp_same s5 dh
      have s05 := s04.trans (sm_of s5)
      clear bks4 kr4 B4 s04 hX4 hS4 s5 nX2 ask
      simp only [List.set]
      refine ⟨_, rfl, _, rfl, X, X2, vs, ws, rfl, SqL.of hX5, SqL.of hX2, fun R nR => ?_⟩
      refine lc_it (walk_ez (xs := vs) (ys := ws) (by rw [lw, lv])) (fun j Hz => Same H5 Hz ∧ ∃ nn : Nat, Hz R = some (.lst ((List.replicate nn true).map V.bl)) ∧ nn ≤ j) ⟨same_upd nR, 0, upd_same, Nat.le_refl _⟩ (fun _ _ _ h => ⟨SqL.of (h.1 _ _ hX5), SqL.of (h.1 _ _ hX2)⟩) ?_ ?_
      · rintro j y Ha Hb hj ⟨sz, nn, hR, ln⟩ ⟨T_, U_, x, y2, rfl, nU, nT, tu, rfl, gx, gy⟩
        have s6 := (same_upd (o := .tup [x, y2]) nU).trans (same_upd (o := .tup [.int (j : Nat), .ref U_]) (show upd Ha U_ (.tup [x, y2]) T_ = none by rw [upd_ne tu]; exact nT))
        have hT6 : upd (upd Ha U_ (.tup [x, y2])) T_ (.tup [.int (j : Nat), .ref U_]) T_ = some (.tup [.int (j : Nat), .ref U_]) := upd_same
        have hU6 : upd (upd Ha U_ (.tup [x, y2])) T_ (.tup [.int (j : Nat), .ref U_]) U_ = some (.tup [x, y2]) := by rw [upd_ne tu.symm]; exact upd_same
        generalize upd (upd Ha U_ (.tup [x, y2])) T_ (.tup [.int (j : Nat), .ref U_]) = H6 at s6 hT6 hU6 ⊢
        have hR6 := s6 _ _ hR
        have sz := sz.trans s6
        refine ⟨T_, _, rfl, SqT.of hT6, rfl, _, _, rfl, _, _, rfl, U_, _, rfl, SqT.of hU6, rfl, _, _, rfl, _, _, rfl, rfl, rfl, ?_⟩
        refine ⟨rfl, _, rfl, _, rfl, rfl, _, rfl, ?_⟩
        by_cases ja : j = aN
        · rw [show (!decide (V.int (j : Nat) = V.int (aN : Nat))) = false by rw [ja]; simp]
          exact iteF ⟨sz, nn, hR6, by omega⟩
        · rw [show (!decide (V.int (j : Nat) = V.int (aN : Nat))) = true by
            rw [decide_eq_false (fun z => ja (by injection z with z; exact Int.ofNat.inj z))]; rfl]
          refine iteT ?_
          obtain ⟨ts, gt⟩ : ∃ t, tss[j]? = some t := ⟨_, List.getElem?_eq_getElem (by omega)⟩
          obtain ⟨pj, gp⟩ : ∃ p, ps[j]? = some p := ⟨_, List.getElem?_eq_getElem (by omega)⟩
          have gt2 : (tss.set aN ts2)[j]? = some ts := by rw [List.getElem?_set_ne (fun z => ja z.symm)]; exact gt
          obtain ⟨v, gv, kv⟩ := kr5 j ts gt
          obtain ⟨v', gv', kv'⟩ := kw j ts gt2
          have ex : x = v := Option.some.inj ((show vs[j]? = some x from gx).symm.trans gv)
          have ey : y2 = v' := Option.some.inj ((show ws[j]? = some y2 from gy).symm.trans gv')
          subst ex ey
          obtain ⟨mg_, hg⟩ := kD_gd (bks5 j pj ts gp gt2).dk
          have sh := gd_shaped (m := mg_) hg (kD_depth ts)
          refine ⟨_, rfl, _, rfl, kD ts, kD ts, dp_same sz kv.dp, dp_same sz kv'.dp, sh, sh, ?_⟩
          rw [SeqAt.eqv_refl _ (gd_lay _ hg)]
          exact ⟨_, hR6, by rw [List.length_map, List.length_replicate, sizeLine_eq]; omega, same_put sz nR, nn + 1, by rw [upd_same, List.replicate_succ', List.map_append]; rfl, by omega⟩
      · rintro Hz ⟨sz, nn, hR, ln⟩
        refine ⟨R, List.replicate nn true, rfl, SqL.of hR, ?_⟩
        rw [show (List.replicate nn true).all id = true from List.all_eq_true.mpr fun x hx => by rw [(List.mem_replicate.mp hx).2]; rfl]
        refine ⟨true, rfl, iteF ?_⟩
        exact ⟨tss.set aN ts2, _, _, _, _, _, _, _, _, rfl, lt2, fun j p ts g1 g2 => (bks5 j p ts g1 g2).same sz, (B5.same sz).mono (by omega), s05.trans (sm_of sz), dp_same sz dh⟩
    · rintro σ Hx ⟨tss, u3, u4, u5, u6, u7, u8, u9, u10, rfl, lt, bks, B, s0, dh⟩
      exact q Hx tss (B.mono (by show m + 61 * 9 ≤ _; omega)) s0 lt bks

end
end Pot

namespace Pot
open PySem PySem.Spec PyProof.Rows L2
section
variable {P : Program} {w : World} {K : PySem.W.Frag} {mg : Str → Option Value} {base : Heap}
/-- data without lists, no deeper than n -/
def G1 (n : Nat) (d : PyData) : Prop := noLAll.noL d ∧ (∃ m, gd m d) ∧ d.depth ≤ n
theorem noLAll_of : ∀ {ds : List PyData}, (∀ d ∈ ds, noLAll.noL d) → noLAll ds
  | [], _ => trivial
  | d :: r, h => ⟨h d List.mem_cons_self, noLAll_of fun x hx => h x (List.mem_cons_of_mem _ hx)⟩
theorem G1.up {n m : Nat} {d : PyData} (h : G1 n d) (l : n ≤ m) : G1 m d := ⟨h.1, h.2.1, Nat.le_trans h.2.2 l⟩
theorem G1.tup {n : Nat} {ds : List PyData} (h : ∀ d ∈ ds, G1 n d) : G1 (n + 1) (.tuple ds) := by
  refine ⟨noLAll_of fun d hd => (h d hd).1, gd_all_ex fun d hd => (h d hd).2.1, ?_⟩
  have := depthAll_le (n := n) (ds := ds) fun d hd => (h d hd).2.2
  simp only [PyData.depth]
  omega
theorem G1.int (n : Nat) (i : Int) : G1 n (.int i) := ⟨trivial, gd_int i, by simp only [PyData.depth]; omega⟩
theorem G1.str {z : Str} (n : Nat) (h : Nm z) : G1 n (.str z) := ⟨trivial, ⟨0, gd_nm h 0⟩, by simp only [PyData.depth]; omega⟩
theorem G1.none (n : Nat) : G1 n .none := ⟨trivial, ⟨0, (trivial : gd 0 .none)⟩, by simp only [PyData.depth]; omega⟩
theorem g1_col {c : Col} (h : CoOk c) : G1 1 (colD c) := G1.tup (n := 0) fun d hd => by
  simp only [List.mem_cons, List.not_mem_nil, or_false] at hd
  rcases hd with rfl | rfl | rfl | rfl
  · exact .str _ h.1
  · exact .int _ _
  · exact .int _ _
  · exact .int _ _
theorem g1_kd {c : Kd} (h : KdOk c) : G1 1 (kdD c) := G1.tup (n := 0) fun d hd => by
  simp only [List.mem_cons, List.not_mem_nil, or_false] at hd
  rcases hd with rfl | rfl | rfl
  · exact .str _ h.1
  · exact .int _ _
  · exact .int _ _
theorem g1_tm {c : Tm} (h : TmOk c) : G1 1 (tmD c) := G1.tup (n := 0) fun d hd => by
  simp only [List.mem_cons, List.not_mem_nil, or_false] at hd
  rcases hd with rfl | rfl
  · exact .str _ h.1
  · exact .int _ _
theorem g1_wash {r : Wsh} (h : WsOk r) : G1 1 (washD r) := by
  obtain ⟨a, b, o⟩ := r
  refine G1.tup (n := 0) fun d hd => ?_
  simp only [List.mem_cons, List.not_mem_nil, or_false] at hd
  rcases hd with rfl | rfl | rfl
  · exact .str _ h.1
  · exact .str _ h.2.1
  · cases o with
    | none => exact .none _
    | some i => exact .int _ _
theorem g1_pal {h : Hall} (o : HallOk h) : G1 3 (palD h.cs h.ws) := G1.tup (n := 2) fun d hd => by
  simp only [List.mem_cons, List.not_mem_nil, or_false] at hd
  rcases hd with rfl | rfl
  · exact .tup fun d hd => by obtain ⟨c, hc, rfl⟩ := List.mem_map.mp hd; exact g1_col (o.co c hc)
  · exact .tup fun d hd => by obtain ⟨c, hc, rfl⟩ := List.mem_map.mp hd; exact g1_wash (o.wo c hc)
def hallEs (h : Hall) : List PyData := [palD h.cs h.ws, .tuple (h.ks.map kdD), .tuple (h.ts.map tmD), .tuple (h.ps.map PyData.str), .int h.sl, .str h.st]
theorem g1_hels {h : Hall} (o : HallOk h) : ∀ d ∈ hallEs h, G1 3 d := fun d hd => by
  unfold hallEs at hd
  simp only [List.mem_cons, List.not_mem_nil, or_false] at hd
  rcases hd with rfl | rfl | rfl | rfl | rfl | rfl
  · exact g1_pal o
  · exact (G1.tup (n := 1) fun d hd => by obtain ⟨c, hc, rfl⟩ := List.mem_map.mp hd; exact g1_kd (o.ko c hc)).up (by decide)
  · exact (G1.tup (n := 1) fun d hd => by obtain ⟨c, hc, rfl⟩ := List.mem_map.mp hd; exact g1_tm (o.to c hc)).up (by decide)
  · exact (G1.tup (n := 0) fun d hd => by obtain ⟨c, hc, rfl⟩ := List.mem_map.mp hd; exact .str _ (o.po c hc)).up (by decide)
  · exact .int _ _
  · exact .str _ o.so
theorem g1_hall {h : Hall} (o : HallOk h) : G1 4 (hallD h) := G1.tup (g1_hels o)
def cutD (ds : List PyData) (lo hi : Option Int) : List PyData := (ds.drop (HT.sIx ds.length 0 lo)).take (HT.sIx ds.length ds.length hi - HT.sIx ds.length 0 lo)
theorem cutD_mem {ds : List PyData} {lo hi : Option Int} {d : PyData} (h : d ∈ cutD ds lo hi) : d ∈ ds := List.mem_of_mem_drop (List.mem_of_mem_take h)
theorem cutD_len (ds : List PyData) (lo hi : Option Int) : (cutD ds lo hi).length ≤ ds.length := by
  unfold cutD
  rw [List.length_take, List.length_drop]
  omega
theorem sl_dp {H : Hp} {v : V} {ds : List PyData} {lo hi : Option Int} {Q : VK} (d : Dp K H v (.tuple ds)) (k : ∀ H' p, Same H H' → Dp K H' (.ref p) (.tuple (cutD ds lo hi)) → Q (.ref p) H') : rSlA K v lo hi H Q := by
  obtain ⟨a, xs, rfl, hS, dx⟩ := dp_tup d
  have l : xs.length = ds.length := dpAll_len dx
  refine ⟨a, xs, rfl, hS, fun w => k H a (Same.refl _) ?_, fun _ p np => k _ p (same_upd np) (.tup (SqT.of upd_same) (dpAll_same (same_upd np) ?_))⟩
  · have e : cutD ds lo hi = ds := by
      unfold cutD
      rw [l] at w
      rw [w.1, w.2, List.drop_zero, Nat.sub_zero, List.take_length]
    rw [e]
    exact .tup hS dx
  · unfold cutD cutV
    rw [l]
    exact dpAll_take _ (dpAll_drop _ dx)
theorem cat_dp {H : Hp} {v u : V} {ds es : List PyData} {Q : VK} (d : Dp K H v (.tuple ds)) (e : Dp K H u (.tuple es)) (l : ds.length + es.length ≤ 1000) (k : ∀ H' p, Same H H' → Dp K H' (.ref p) (.tuple (ds ++ es)) → Q (.ref p) H') : rCatA K v u H Q := by
  obtain ⟨a, xs, rfl, hS, dx⟩ := dp_tup d
  obtain ⟨c, ys, rfl, hT, dy⟩ := dp_tup e
  have l1 : xs.length = ds.length := dpAll_len dx
  have l2 : ys.length = es.length := dpAll_len dy
  refine ⟨a, c, xs, ys, rfl, rfl, hS, hT, by rw [sizeLine_eq]; omega, fun e => ?_, fun _ e => ?_, fun _ _ p np => k _ p (same_upd np) (.tup (SqT.of upd_same) (dpAll_same (same_upd np) (dpAll_app' dx dy)))⟩
  · subst e
    have : ds = [] := List.eq_nil_of_length_eq_zero l1.symm
    subst this
    exact k H c (Same.refl _) (.tup hT dy)
  · subst e
    have : es = [] := List.eq_nil_of_length_eq_zero l2.symm
    subst this
    exact k H a (Same.refl _) (by rw [List.append_nil]; exact .tup hS dx)
theorem tup_dp {H : Hp} {xs : List V} {ds : List PyData} {p : Addr} (d : DpAll K H xs ds) (np : H p = none) : Dp K (upd H p (.tup xs)) (.ref p) (.tuple ds) := .tup (SqT.of upd_same) (dpAll_same (same_upd np) d)
/-- a hall with a thing otherwise -/
def HaOk (d : PyData) : Prop := ∃ e, d = .tuple e ∧ (∀ x ∈ e, G1 8 x) ∧ (e.length ≠ 5 ∨ ∃ d1 d2 d3 d4 i, e = [d1, d2, d3, d4, .int i])
theorem ha_noL {es : List PyData} (g : ∀ d ∈ es, HaOk d) : noLAll es := noLAll_of fun d hd => by
  obtain ⟨e, rfl, h, _⟩ := g d hd
  exact noLAll_of fun x hx => (h x hx).1
def spHA (K : PySem.W.Frag) : Sp := fun vs H Q _ => ∃ (hv : V) (h : Hall), vs = [hv] ∧ Dp K H hv (hallD h) ∧ HallOk h ∧
  ∀ (H' : Hp) (L : Addr) (us : List V) (ds : List PyData), Same H H' → H' L = some (.lst us) → DpAll K H' us ds → (∀ d ∈ ds, HaOk d) → ds.length ≤ 20 → Q (.ref L) H'
abbrev s__law_halls : Stmt := topS 20
def n__law_halls : List Str := ["_law_hall", "_law_colours", "_law_washes", "_law_more", "_law_palettes", "_law_found", "_law_palette"]
theorem sc__law_halls : FnScope n__law_halls ["_law_hall"] (defScope s__law_halls) := ⟨rfl, rfl, rfl, by decide +kernel, rfl, by decide +kernel, by decide +kernel⟩
set_option maxHeartbeats 1000000 in
theorem ok_ha {f : Addr} {fd : FuncData} {k : Nat} (F : Fun K "_law_halls" "_law_halls" s__law_halls f fd) (T : Txt mg) : FnOk P w K mg base CX0 (k + 1) f fd ["_law_hall"] (spHA K) := by
  refine F.ok sc__law_halls (fun vs H Q E h => ?_) (fun cdv A outer s H vs Q E hr h => ?_)
  · obtain ⟨hv, h, rfl, _⟩ := h
    rfl
  · obtain ⟨hv, h, rfl, dh, okh, q⟩ := h
    have nd := sc__law_halls.nd
    have hu64 := hr.units
    /- 0 _law_hall, 1 _law_colours, 2 _law_washes, 3 _law_more, 4 _law_palettes, 5 _law_found, 6 _law_palette -/
    refine ⟨_, (pss_cons (ps_asg (pe_ix (kx_tup (K := K)) (pv 0) pe_int (fun _ _ => rfl)) (kg_tup (K := K) (n := 2) (pgs_cons (pg_name (i := 1) nd rfl (.inl rfl)) (pgs_cons (pg_name (i := 2) nd rfl (.inl rfl)) pgs_nil))))
      (pss_cons (ps_set (i := 3) nd rfl (.inl rfl) (pe_tup (pa_cons (pe_ix (kx_tup (K := K)) (pe_ix (kx_tup (K := K)) (pv 1) pe_int (fun _ _ => rfl)) pe_int (fun _ _ => rfl)) (pa_cons (pe_ix (kx_tup (K := K)) (pe_ix (kx_tup (K := K)) (pv 1) pe_int (fun _ _ => rfl)) pe_int (fun _ _ => rfl)) (pa_cons (pe_op op_add (pe_ix (kx_tup (K := K)) (pe_ix (kx_tup (K := K)) (pv 1) pe_int (fun _ _ => rfl)) pe_int (fun _ _ => rfl)) pe_int) (pa_cons (pe_ix (kx_tup (K := K)) (pe_ix (kx_tup (K := K)) (pv 1) pe_int (fun _ _ => rfl)) pe_int (fun _ _ => rfl)) pa_nil))))))
      (pss_cons (ps_set (i := 4) nd rfl (.inl rfl) (pe_lst (pa_cons (pe_tup (pa_cons (pe_op (op_catA) (pe_tup (pa_cons (pv 3) pa_nil)) (pe_slice (kl_tup (K := K)) (pv 1) (po_some pe_int) po_none)) (pa_cons (pv 2) pa_nil))) pa_nil)))
      (pss_cons (ps_if (pt_cmpR (ko_ne (K := K) hu64) (pv 2) (pe_tup pa_nil) (nomark _))
          (pss_one (ps_set (i := 4) nd rfl (.inl rfl) (pe_op op_cat (pv 4) (pe_lst (pa_cons (pe_tup (pa_cons (pv 1) (pa_cons (pe_slice (kl_tup (K := K)) (pv 2) (po_some pe_int) po_none) pa_nil))) (pa_cons (pe_tup (pa_cons (pv 1) (pa_cons (pe_op (op_catA) (pe_tup (pa_cons (pe_op (op_catA) (pe_slice (kl_tup (K := K)) (pe_ix (kx_tup (K := K)) (pv 2) pe_int (fun _ _ => rfl)) po_none (po_some pe_int)) (pe_tup (pa_cons pe_int pa_nil))) pa_nil)) (pe_slice (kl_tup (K := K)) (pv 2) (po_some pe_int) po_none)) pa_nil))) pa_nil))))))
          pss_nil)
      (pss_cons (ps_setLc (i := 5) (own := [("_law_palette", 6)]) rfl nd rfl rfl (sw_true rfl rfl rfl (by decide +kernel)) (ki_list (K := K) (pv 4)) (blkOk_by (N := n__law_halls) (sc := defScope s__law_halls) (by decide +kernel)) (fun _ _ _ _ _ => (pg_name (i := 6) nd rfl (.inl rfl))) (fun _ _ _ _ _ => pts_nil) (fun _ _ _ _ _ => (pe_op (ko_catA (K := K)) (pe_tup (pa_cons (pv 6) pa_nil)) (pe_slice (kl_tup (K := K)) (pv 0) (po_some pe_int) (po_some pe_int)))))
      (pss_cons (ps_expr (pe_bm PySem.F.plainAttrs_list PySem.F.slot_list_append PySem.F.type_list_append mt_append (pv 5) (pa_cons (pe_op (op_catA) (pe_tup (pa_cons (pe_ix (kx_tup (K := K)) (pv 0) pe_int (fun _ _ => rfl)) (pa_cons (pe_op (op_catA) (pe_tup (pa_cons (pe_tup (pa_cons (pe_ix (kx_tup (K := K)) (pe_ix (kx_tup (K := K)) (pe_ix (kx_tup (K := K)) (pv 0) pe_int (fun _ _ => rfl)) pe_int (fun _ _ => rfl)) pe_int (fun _ _ => rfl)) (pa_cons pe_int (pa_cons pe_int pa_nil)))) pa_nil)) (pe_slice (kl_tup (K := K)) (pe_ix (kx_tup (K := K)) (pv 0) pe_int (fun _ _ => rfl)) (po_some pe_int) po_none)) pa_nil))) (pe_slice (kl_tup (K := K)) (pv 0) (po_some pe_int) (po_some pe_int))) pa_nil)))
      (pss_cons (ps_expr (pe_bm PySem.F.plainAttrs_list PySem.F.slot_list_append PySem.F.type_list_append mt_append (pv 5) (pa_cons (pe_op (op_catA) (pe_op (op_catA) (pe_slice (kl_tup (K := K)) (pv 0) po_none (po_some pe_int)) (pe_tup (pa_cons (pe_slice (kl_tup (K := K)) (pe_ix (kx_tup (K := K)) (pv 0) pe_int (fun _ _ => rfl)) (po_some pe_int) po_none) pa_nil))) (pe_slice (kl_tup (K := K)) (pv 0) (po_some pe_int) (po_some pe_int))) pa_nil)))
      (pss_one (ps_ret (pe_op op_cat (pv 5) (pe_lst (pa_cons (pe_op (op_catA) (pe_slice (kl_tup (K := K)) (pv 0) po_none (po_some pe_int)) (pe_tup (pa_cons (pe_slice (kl_tup (K := K)) (pe_ix (kx_tup (K := K)) (pv 0) pe_int (fun _ _ => rfl)) (po_some pe_int) po_none) (pa_cons (pe_ix (kx_tup (K := K)) (pv 0) pe_int (fun _ _ => rfl)) pa_nil)))) (pa_cons (pe_op (op_catA) (pe_slice (kl_tup (K := K)) (pv 0) po_none (po_some pe_int)) (pe_op (ko_rep01 (K := K)) (pe_tup (pa_cons (pe_op op_sub pe_int (pe_ix (kx_tup (K := K)) (pv 0) pe_int (fun _ _ => rfl))) pa_nil)) (pe_callTy call_int1 (by rfl) T.int (by decide +kernel) (pa_cons (pe_cmpR op_ne (pe_ix (kx_tup (K := K)) (pv 0) pe_int (fun _ _ => rfl)) pe_int (nomark _)) pa_nil)))) pa_nil))))))))))))), ?_⟩
    obtain ⟨A_, xs, rfl, hA, dA⟩ := dp_tup dh
    have gh := g1_hall okh
    obtain ⟨c0, cr, ec⟩ : ∃ c r, h.cs = c :: r := by
      cases e : h.cs with
      | nil => exact absurd okh.c1 (by rw [e]; decide)
      | cons c r => exact ⟨c, r, rfl⟩
    obtain ⟨k0, kr, ek⟩ : ∃ c r, h.ks = c :: r := by
      cases e : h.ks with
      | nil => exact absurd okh.k1 (by rw [e]; decide)
      | cons c r => exact ⟨c, r, rfl⟩
    have dA0 := dA
    cases dA with | cons d0 dA => ?_
    cases dA with | cons d1 dA => ?_
    cases dA with | cons d2 dA => ?_
    cases dA with | cons d3 dA => ?_
    cases dA with | cons d4 dA => ?_
    cases dA with | cons d5 dA => ?_
    cases dA
    cases d4
    rename_i x0 x1 x2 x3 x5
    obtain ⟨U, us, rfl, hU, dU⟩ := dp_tup d0
    cases dU with | cons dc dU => ?_
    cases dU with | cons dw dU => ?_
    cases dU
    obtain ⟨Ca, uc, rfl, hC, dC⟩ := dp_tup dc
    obtain ⟨Wa, uw, rfl, hW, dW⟩ := dp_tup dw
    have dC0 := dC
    rw [ec] at dC0
    cases dC0 with | cons dc0 dCr => ?_
    obtain ⟨ca, cx, rfl, hc, dcx⟩ := dp_tup dc0
    cases dcx with | cons e1 dcx => ?_
    cases dcx with | cons e2 dcx => ?_
    cases dcx with | cons e3 dcx => ?_
    cases dcx with | cons e4 dcx => ?_
    cases dcx
    cases e1
    cases e2
    cases e3
    cases e4
    have at0 : ∀ {x : V} {xs : List V}, atI (x :: xs) 0 = some x := fun {x xs} => atI_nat (j := 0) rfl
    refine ⟨_, rfl, A_, _, _, _, rfl, rfl, hA, rfl, U, _, rfl, hU, rfl, _, _, rfl, _, _, rfl, rfl, ?_⟩
    refine ⟨_, rfl, Ca, _, _, _, rfl, rfl, hC, at0, ca, _, _, _, rfl, rfl, hc, rfl, _, rfl, Ca, _, _, _, rfl, rfl, hC, at0, ca, _, _, _, rfl, rfl, hc, rfl, _, rfl, Ca, _, _, _, rfl, rfl, hC, at0, ca, _, _, _, rfl, rfl, hc, rfl, _, _, rfl, rfl, _, rfl, Ca, _, _, _, rfl, rfl, hC, at0, ca, _, _, _, rfl, rfl, hc, rfl, (by show 4 ≤ sizeLine; decide), fun M nM => ?_⟩
    have dM := tup_dp (K := K) (H := H) (.cons (.str c0.1) (.cons (.int c0.2.1) (.cons (.int (c0.2.2.1 + 1)) (.cons (.int c0.2.2.2) .nil)))) nM
    have s1 := same_upd (o := .tup [.str c0.1, .int c0.2.1, .int (c0.2.2.1 + 1), .int c0.2.2.2]) nM
    generalize upd H M (.tup [.str c0.1, .int c0.2.1, .int (c0.2.2.1 + 1), .int c0.2.2.2]) = H1 at dM s1 ⊢
    simp only [gName, List.set]
    refine ⟨_, rfl, (by show 1 ≤ sizeLine; decide), fun Z1 nZ1 => ?_⟩
    have dZ := tup_dp (K := K) (H := H1) (.cons dM .nil) nZ1
    have s2 := s1.trans (same_upd (o := .tup [.ref M]) nZ1)
    generalize upd H1 Z1 (.tup [.ref M]) = H2 at dZ s2 ⊢
    clear dM s1 nM nZ1
    have lcs : (h.cs.map colD).length ≤ 12 := by rw [List.length_map]; exact okh.c2
    have lws : (h.ws.map washD).length ≤ 60 := by rw [List.length_map]; exact okh.w2
    have g1c : ∀ d ∈ h.cs.map colD, G1 1 d := fun d hd => by obtain ⟨c, hc, rfl⟩ := List.mem_map.mp hd; exact g1_col (okh.co c hc)
    have g1w : ∀ d ∈ h.ws.map washD, G1 1 d := fun d hd => by obtain ⟨c, hc, rfl⟩ := List.mem_map.mp hd; exact g1_wash (okh.wo c hc)
    refine ⟨_, rfl, _, rfl, ?_⟩
    dsimp only [tNoPart]
    refine sl_dp (lo := some 1) (hi := none) (dp_same s2 dc) fun H3 p3 s3 d3_ => ?_
    refine cat_dp (K := K) (dp_same s3 dZ) d3_ (by have := cutD_len (h.cs.map colD) (some 1) none; simp only [List.length_cons, List.length_nil]; omega) fun H4 p4 s4 d4_ => ?_
    have s14 := (s2.trans s3).trans s4
    refine ⟨_, rfl, (by show 2 ≤ sizeLine; decide), fun Z2 nZ2 => ?_⟩
    have dP := tup_dp (K := K) (H := H4) (.cons d4_ (.cons (dp_same s14 dw) .nil)) nZ2
    have s5 := s14.trans (same_upd (o := .tup [.ref p4, .ref Wa]) nZ2)
    generalize upd H4 Z2 (.tup [.ref p4, .ref Wa]) = H5 at dP s5 ⊢
    refine ⟨(by show 1 ≤ sizeLine; decide), fun PL nPL => ?_⟩
    have s6 := s5.trans (same_upd (o := .lst [.ref Z2]) nPL)
    have hPL_ : upd H5 PL (.lst [.ref Z2]) PL = some (.lst [.ref Z2]) := upd_same
    have dPL_ : DpAll K (upd H5 PL (.lst [.ref Z2])) [.ref Z2] _ := .cons (dp_same (same_upd nPL) dP) .nil
    generalize upd H5 PL (.lst [.ref Z2]) = H6 at s6 hPL_ dPL_ ⊢
    clear dP s5 nPL nZ2 d4_ s14 s4 s3 d3_ dZ s2
    simp only [tNext, gName, List.set]
    refine seq_mid (fun σ Hx => ∃ PL us ds, σ = [some (.ref A_), some (.ref Ca), some (.ref Wa), some (.ref M), some (.ref PL), none, none] ∧ Same H Hx ∧ Hx PL = some (.lst us) ∧ DpAll K Hx us ds ∧ (∀ d ∈ ds, G1 6 d) ∧ ds.length ≤ 3) (fun N hN => ?_) (fun σ Hx g => ?_)
    · have gM : G1 1 (.tuple [.str c0.1, .int c0.2.1, .int (c0.2.2.1 + 1), .int c0.2.2.2]) := G1.tup (n := 0) fun d hd => by
        simp only [List.mem_cons, List.not_mem_nil, or_false] at hd
        rcases hd with rfl | rfl | rfl | rfl
        · exact .str _ (okh.co c0 (by rw [ec]; exact List.mem_cons_self)).1
        · exact .int _ _
        · exact .int _ _
        · exact .int _ _
      have gw : G1 2 (.tuple (h.ws.map washD)) := .tup g1w
      have gc : G1 2 (.tuple (h.cs.map colD)) := .tup g1c
      have gP : G1 6 (.tuple [.tuple ([.tuple [.str c0.1, .int c0.2.1, .int (c0.2.2.1 + 1), .int c0.2.2.2]] ++ cutD (h.cs.map colD) (some 1) none), .tuple (h.ws.map washD)]) := (G1.tup (n := 2) fun d hd => by
        simp only [List.mem_cons, List.not_mem_nil, or_false] at hd
        rcases hd with rfl | rfl
        · refine .tup fun d hd => ?_
          rcases List.mem_append.mp hd with hd | hd
          · rw [List.mem_singleton.mp hd]; exact gM
          · exact g1c d (cutD_mem hd)
        · exact gw).up (by decide)
      refine ⟨_, rfl, Nat.zero_le _, fun Z nZ => ?_⟩
      have s7 := s6.trans (same_upd (o := .tup []) nZ)
      have hZ : upd H6 Z (.tup []) Z = some (.tup []) := upd_same
      have hPL := (same_upd (o := .tup []) nZ) _ _ hPL_
      have dPL := dpAll_same (same_upd (o := .tup []) nZ) dPL_
      generalize upd H6 Z (.tup []) = H7 at s7 hZ hPL dPL ⊢
      obtain ⟨mg_, hg⟩ := gw.2.1
      refine ⟨.tuple (h.ws.map washD), .tuple [], dp_same s7 dw, .tup (SqT.of hZ) .nil, gd_shaped (m := mg_) hg (Nat.le_trans gw.2.2 (by decide)), rfl, _, rfl, ite2 (fun c => ?_) (fun c => ?_)⟩
      · obtain ⟨w0, wr, ew⟩ : ∃ w r, h.ws = w :: r := by
          cases e : h.ws with
          | nil => rw [e] at c; exact absurd c (by decide)
          | cons w r => exact ⟨w, r, rfl⟩
        have dW0 := dW
        rw [ew] at dW0
        cases dW0 with | cons dw0 dWr => ?_
        have gw0 : G1 1 (washD w0) := g1w _ (by rw [ew]; exact List.mem_cons_self)
        have dw0 : Dp K H _ (.tuple _) := dw0
        have ew0 : washD w0 = .tuple _ := rfl
        refine ⟨_, rfl, _, rfl, _, rfl, _, rfl, ?_⟩
        dsimp only [tNoPart]
        refine sl_dp (lo := some 1) (hi := none) (dp_same s7 dw) fun H8 p8 s8 d8 => ?_
        have s8_ := s7.trans s8
        refine ⟨(by show 2 ≤ sizeLine; decide), fun Z9 nZ9 => ?_⟩
        have d9 := tup_dp (K := K) (H := H8) (.cons (dp_same s8_ dc) (.cons d8 .nil)) nZ9
        have s9 := s8.trans (same_upd (o := .tup [.ref Ca, .ref p8]) nZ9)
        generalize upd H8 Z9 (.tup [.ref Ca, .ref p8]) = H9 at d9 s9 ⊢
        have s9_ := s7.trans s9
        refine ⟨_, rfl, _, rfl, Wa, _, _, _, rfl, rfl, same_tup s9_ hW, at0, _, rfl, ?_⟩
        refine sl_dp (lo := none) (hi := some 2) (dp_same s9_ dw0) fun Ha pa sa da => ?_
        refine ⟨(by show 1 ≤ sizeLine; decide), fun Zb nZb => ?_⟩
        have db := tup_dp (K := K) (H := Ha) (.cons (.int 77) .nil) nZb
        have da := dp_same (same_upd (o := .tup [.int 77]) nZb) da
        have sb := (s9.trans sa).trans (same_upd (o := .tup [.int 77]) nZb)
        have d9 := dp_same (sa.trans (same_upd (o := .tup [.int 77]) nZb)) d9
        generalize upd Ha Zb (.tup [.int 77]) = Hb at db da sb d9 ⊢
        refine cat_dp (K := K) da db (by have := cutD_len [.str w0.1, .str w0.2.1, optD w0.2.2] none (some 2); simp only [List.length_cons, List.length_nil] at this ⊢; omega) fun Hc pc sc dc_ => ?_
        refine ⟨(by show 1 ≤ sizeLine; decide), fun Zd nZd => ?_⟩
        have dd := tup_dp (K := K) (H := Hc) (.cons dc_ .nil) nZd
        have sd := (sb.trans sc).trans (same_upd (o := .tup [.ref pc]) nZd)
        have d9 := dp_same (sc.trans (same_upd (o := .tup [.ref pc]) nZd)) d9
        generalize upd Hc Zd (.tup [.ref pc]) = Hd at dd sd d9 ⊢
        refine ⟨_, rfl, _, rfl, ?_⟩
        dsimp only [tNoPart]
        refine sl_dp (K := K) (lo := some 1) (hi := none) (dp_same (s7.trans sd) dw) fun He pe se de => ?_
        refine cat_dp (K := K) (dp_same se dd) de (by have := cutD_len (h.ws.map washD) (some 1) none; simp only [List.length_cons, List.length_nil]; omega) fun Hf pf sf df => ?_
        have s7f := ((s7.trans sd).trans se).trans sf
        have sf_ := (sd.trans se).trans sf
        have d9 := dp_same (se.trans sf) d9
        refine ⟨(by show 2 ≤ sizeLine; decide), fun Zg nZg => ?_⟩
        have dg := tup_dp (K := K) (H := Hf) (.cons (dp_same s7f dc) (.cons df .nil)) nZg
        have d9 := dp_same (same_upd (o := .tup [.ref Ca, .ref pf]) nZg) d9
        have sg := sf_.trans (same_upd (o := .tup [.ref Ca, .ref pf]) nZg)
        generalize upd Hf Zg (.tup [.ref Ca, .ref pf]) = Hg at dg d9 sg ⊢
        refine ⟨(by show 2 ≤ sizeLine; decide), fun L nL => ?_⟩
        have sL := same_upd (o := .lst [.ref Z9, .ref Zg]) nL
        have hL : upd Hg L (.lst [.ref Z9, .ref Zg]) L = some (.lst [.ref Z9, .ref Zg]) := upd_same
        have sg := sg.trans sL
        have d9 := dp_same sL d9
        have dg := dp_same sL dg
        generalize upd Hg L (.lst [.ref Z9, .ref Zg]) = Hh at hL sg d9 dg ⊢
        refine ⟨PL, L, _, _, rfl, rfl, sg _ _ hPL, hL, (by show 3 ≤ sizeLine; decide), fun p np => ?_⟩
        have sp := sg.trans (same_upd (o := .lst ([.ref Z2] ++ [.ref Z9, .ref Zg])) np)
        refine hN _ _ ⟨p, _, _, rfl, s7.trans sp, upd_same, dpAll_same (same_upd np) (dpAll_app' (dpAll_same sg dPL) (.cons d9 (.cons dg .nil))), fun d hd => ?_, (by show 3 ≤ 3; decide)⟩
        simp only [List.cons_append, List.nil_append, List.mem_cons, List.not_mem_nil, or_false] at hd
        rcases hd with rfl | rfl | rfl
        · exact gP
        · exact (G1.tup (n := 2) fun d hd => by
            simp only [List.mem_cons, List.not_mem_nil, or_false] at hd
            rcases hd with rfl | rfl
            · exact gc
            · exact .tup fun d hd => g1w d (cutD_mem hd)).up (by decide)
        · exact (G1.tup (n := 3) fun d hd => by
            simp only [List.mem_cons, List.not_mem_nil, or_false] at hd
            rcases hd with rfl | rfl
            · exact gc.up (by decide)
            · refine (G1.tup (n := 2) fun d hd => ?_)
              rcases List.mem_cons.mp hd with hd | hd
              · rw [hd]
                refine (G1.tup (n := 1) fun d hd => ?_)
                rcases List.mem_append.mp hd with hd | hd
                · have hm := cutD_mem hd
                  simp only [List.mem_cons, List.not_mem_nil, or_false] at hm
                  rcases hm with rfl | rfl | rfl
                  · exact .str _ (okh.wo w0 (by rw [ew]; exact List.mem_cons_self)).1
                  · exact .str _ (okh.wo w0 (by rw [ew]; exact List.mem_cons_self)).2.1
                  · cases w0.2.2 with
                    | none => exact .none _
                    | some i => exact .int _ _
                · rw [List.mem_singleton.mp hd]; exact .int _ _
              · exact (g1w d (cutD_mem hd)).up (by decide)).up (by decide)
      · refine hN _ _ ⟨PL, _, _, rfl, s7, hPL, dPL, fun d hd => ?_, (by show 1 ≤ 3; decide)⟩
        rw [List.mem_singleton.mp hd]; exact gP
    · obtain ⟨PL, us, ds, rfl, s0, hPL, dPL, gP, lP⟩ := g
      clear hPL_ dPL_ s6
      have ext5 : ∀ {a b c d e f : PyData}, cutD [a, b, c, d, e, f] (some 1) (some 5) = [b, c, d, e] := rfl
      have gel := g1_hels okh
      have dh : Dp K H (.ref A_) (.tuple (hallEs h)) := dh
      refine ⟨_, rfl, PL, rfl, ⟨_, SqL.of hPL⟩, fun F_ nF => ?_⟩
      refine lc_it (walk_list (xs := us)) (fun i Hz => Same Hx Hz ∧ ∃ vs es, Hz F_ = some (.lst vs) ∧ DpAll K Hz vs es ∧ (∀ d ∈ es, HaOk d) ∧ es.length ≤ i) ⟨same_upd nF, [], [], upd_same, .nil, fun _ h => (List.not_mem_nil h).elim, Nat.le_refl _⟩ (fun _ _ _ h => SqL.of (h.1 _ _ hPL)) ?_ ?_
      · rintro i y Ha Hb hi ⟨sx, vs, es, hF, dv, gv, lv⟩ ⟨rfl, gy⟩
        refine ⟨rfl, tYes_at ?_⟩
        rw [if_pos rfl]
        obtain ⟨pd, gp, dy⟩ := dpAll_get (by rw [List.map_id]; exact dPL : DpAll K Hx us (ds.map id)) gy
        have g1p := gP pd (List.mem_of_getElem? gp)
        refine ⟨_, rfl, (by show 1 ≤ sizeLine; decide), fun Z nZ => ?_⟩
        have dz := tup_dp (K := K) (H := Hb) (.cons (dp_same sx dy) .nil) nZ
        have s1 := same_upd (o := .tup [y]) nZ
        generalize upd Hb Z (.tup [y]) = H1 at dz s1 ⊢
        refine ⟨_, rfl, _, rfl, _, rfl, ?_⟩
        refine sl_dp (K := K) (lo := some 1) (hi := some 5) (dp_same ((s0.trans sx).trans s1) dh) fun H2 p2 s2 d2_ => ?_
        refine cat_dp (K := K) (dp_same s2 dz) d2_ (by show 1 + 4 ≤ 1000; decide) fun H3 p3 s3 d3_ => ?_
        have s13 := (s1.trans s2).trans s3
        have hF3 := s13 _ _ hF
        have lvs : vs.length = es.length := dpAll_len dv
        have li : us.length = ds.length := dpAll_len dPL
        have gv2 : ∀ d ∈ es ++ [.tuple ([pd] ++ cutD (hallEs h) (some 1) (some 5))], HaOk d := fun d hd => by
          rcases List.mem_append.mp hd with hd | hd
          · exact gv d hd
          · rw [List.mem_singleton.mp hd]
            refine ⟨_, rfl, fun x hx => ?_, .inr ⟨_, _, _, _, _, rfl⟩⟩
            rcases List.mem_append.mp hx with hx | hx
            · rw [List.mem_singleton.mp hx]; exact g1p.up (by decide)
            · exact (gel x (cutD_mem hx)).up (by decide)
        have sw := sm_wr (H := H3) (S := [F_]) (p := F_) (o := .lst (vs ++ [.ref p3])) (by simp)
        refine ⟨vs, hF3, by rw [sizeLine_eq]; omega, same_put (sx.trans s13) nF, _, _, upd_same, dpAll_nt (dpAll_app' (dpAll_same s13 dv) (.cons d3_ .nil)) (ha_noL gv2) sw (lst_nt hF3), gv2, by rw [List.length_append]; show es.length + 1 ≤ i + 1; omega⟩
      · rintro H1 ⟨sx, vs, es, hF, dv, gv, lv⟩
        have at1 : ∀ {x y : V} {xs : List V}, atI (x :: y :: xs) 1 = some y := fun {x y xs} => atI_nat (j := 1) rfl
        have at2 : ∀ {x y z : V} {xs : List V}, atI (x :: y :: z :: xs) 2 = some z := fun {x y z xs} => atI_nat (j := 2) rfl
        have at3 : ∀ {x y z u : V} {xs : List V}, atI (x :: y :: z :: u :: xs) 3 = some u := fun {x y z u xs} => atI_nat (j := 3) rfl
        have at4 : ∀ {x y z u v : V} {xs : List V}, atI (x :: y :: z :: u :: v :: xs) 4 = some v := fun {x y z u v xs} => atI_nat (j := 4) rfl
        obtain ⟨Ka, uk, rfl, hK, dK⟩ := dp_tup d1
        rw [ek] at dK
        cases dK with | cons dk0 dKr => ?_
        obtain ⟨ka, kx, rfl, hk, dkx⟩ := dp_tup dk0
        cases dkx with | cons f1 dkx => ?_
        cases dkx with | cons f2 dkx => ?_
        cases dkx with | cons f3 dkx => ?_
        cases dkx
        cases f1
        cases f2
        cases f3
        have nF0 : H F_ = none := by
          cases e : H F_ with
          | none => rfl
          | some o => rw [s0 _ _ e] at nF; cases nF
        have s1 := s0.trans sx
        have lvs : vs.length = es.length := dpAll_len dv
        have li : us.length = ds.length := dpAll_len dPL
        have lks : (h.ks.map kdD).length ≤ 20 := by rw [List.length_map]; exact okh.k2
        have lts : (h.ts.map tmD).length ≤ 10 := by rw [List.length_map]; exact okh.t2
        have lps : (h.ps.map PyData.str).length ≤ 8 := by rw [List.length_map]; exact okh.p2
        clear hPL dPL
        simp only [gName, List.set]
        refine ⟨_, rfl, .inl ⟨rfl, _, SqL.of hF⟩, _, rfl, A_, _, _, _, rfl, rfl, same_tup s1 hA, at0, _, rfl, A_, _, _, _, rfl, rfl, same_tup s1 hA, at1, Ka, _, _, _, rfl, rfl, same_tup s1 hK, at0, ka, _, _, _, rfl, rfl, same_tup s1 hk, at0, (by show 3 ≤ sizeLine; decide), fun Z1 nZ1 => ?_⟩
        have d1z := tup_dp (K := K) (H := H1) (.cons (.str k0.1) (.cons (.int 9) (.cons (.int 99) .nil))) nZ1
        have s2 := same_upd (o := .tup [.str k0.1, .int 9, .int 99]) nZ1
        generalize upd H1 Z1 (.tup [.str k0.1, .int 9, .int 99]) = H2 at d1z s2 ⊢
        refine ⟨(by show 1 ≤ sizeLine; decide), fun Z2 nZ2 => ?_⟩
        have d2z := tup_dp (K := K) (H := H2) (.cons d1z .nil) nZ2
        have s3 := s2.trans (same_upd (o := .tup [.ref Z1]) nZ2)
        generalize upd H2 Z2 (.tup [.ref Z1]) = H3 at d2z s3 ⊢
        have s03 := s1.trans s3
        refine ⟨_, rfl, A_, _, _, _, rfl, rfl, same_tup s03 hA, at1, _, rfl, ?_⟩
        dsimp only [tNoPart]
        refine sl_dp (K := K) (lo := some 1) (hi := none) (dp_same s03 d1) fun H4 p4 s4 d4_ => ?_
        refine cat_dp (K := K) (dp_same s4 d2z) d4_ (by have := cutD_len (h.ks.map kdD) (some 1) none; simp only [List.length_cons, List.length_nil]; omega) fun H5 p5 s5 d5_ => ?_
        have s05 := (s03.trans s4).trans s5
        refine ⟨(by show 2 ≤ sizeLine; decide), fun Z3 nZ3 => ?_⟩
        have d3z := tup_dp (K := K) (H := H5) (.cons (dp_same s05 d0) (.cons d5_ .nil)) nZ3
        have s06 := s05.trans (same_upd (o := .tup [.ref U, .ref p5]) nZ3)
        have s6 := ((s3.trans s4).trans s5).trans (same_upd (o := .tup [.ref U, .ref p5]) nZ3)
        generalize upd H5 Z3 (.tup [.ref U, .ref p5]) = H6 at d3z s06 s6 ⊢
        refine ⟨_, rfl, _, rfl, _, rfl, ?_⟩
        refine sl_dp (K := K) (lo := some 2) (hi := some 5) (dp_same s06 dh) fun H7 p7 s7 d7 => ?_
        refine cat_dp (K := K) (dp_same s7 d3z) d7 (by show 2 + 3 ≤ 1000; decide) fun H8 p8 s8 d8 => ?_
        have s18 := (s6.trans s7).trans s8
        have hF8 := s18 _ _ hF
        have gv2 : ∀ d ∈ es ++ [.tuple ([palD h.cs h.ws, .tuple ([.tuple [.str k0.1, .int 9, .int 99]] ++ cutD (h.ks.map kdD) (some 1) none)] ++ cutD (hallEs h) (some 2) (some 5))], HaOk d := fun d hd => by
          rcases List.mem_append.mp hd with hd | hd
          · exact gv d hd
          · rw [List.mem_singleton.mp hd]
            refine ⟨_, rfl, fun x hx => ?_, .inr ⟨_, _, _, _, _, rfl⟩⟩
            rcases List.mem_append.mp hx with hx | hx
            · rcases List.mem_cons.mp hx with hx | hx
              · rw [hx]; exact (g1_pal okh).up (by decide)
              · rw [List.mem_singleton.mp hx]
                refine (G1.tup (n := 2) fun d hd => ?_).up (by decide)
                rcases List.mem_append.mp hd with hd | hd
                · rw [List.mem_singleton.mp hd]
                  refine (G1.tup (n := 0) fun d hd => ?_).up (by decide)
                  simp only [List.mem_cons, List.not_mem_nil, or_false] at hd
                  rcases hd with rfl | rfl | rfl
                  · exact .str _ (okh.ko k0 (by rw [ek]; exact List.mem_cons_self)).1
                  · exact .int _ _
                  · exact .int _ _
                · obtain ⟨c, hc, rfl⟩ := List.mem_map.mp (cutD_mem hd)
                  exact (g1_kd (okh.ko c hc)).up (by decide)
            · exact (gel x (cutD_mem hx)).up (by decide)
        have sw := sm_wr (H := H8) (S := [F_]) (p := F_) (o := .lst (vs ++ [.ref p8])) (by simp)
        refine ⟨F_, vs, _, rfl, rfl, hF8, by rw [sizeLine_eq]; omega, ?_⟩
        have dv := dpAll_nt (dpAll_app' (dpAll_same s18 dv) (.cons d8 .nil)) (ha_noL gv2) sw (lst_nt hF8)
        have hF : upd H8 F_ (.lst (vs ++ [.ref p8])) F_ = some (.lst (vs ++ [.ref p8])) := upd_same
        have s1 : Same H (upd H8 F_ (.lst (vs ++ [.ref p8]))) := same_put (s1.trans s18) nF0
        obtain ⟨vs, evs⟩ : ∃ v, v = vs ++ [.ref p8] := ⟨_, rfl⟩
        obtain ⟨es2, ees⟩ : ∃ e, e = es ++ [.tuple ([palD h.cs h.ws, .tuple ([.tuple [.str k0.1, .int 9, .int 99]] ++ cutD (h.ks.map kdD) (some 1) none)] ++ cutD (hallEs h) (some 2) (some 5))] := ⟨_, rfl⟩
        have le2 : es2.length ≤ 4 := by rw [ees, List.length_append]; show es.length + 1 ≤ 4; omega
        rw [← evs] at dv hF s1 ⊢
        rw [← ees] at dv gv2
        have lvs : vs.length = es2.length := dpAll_len dv
        clear hF8 sw s18 s8 d8 s7 d7 s06 s6 d3z s05 d5_ s5 d4_ s4 s03 s3 d2z s2 d1z gv
        generalize upd H8 F_ (.lst vs) = H9 at dv hF s1 ⊢
        refine ⟨_, rfl, .inl ⟨rfl, _, SqL.of hF⟩, _, rfl, _, rfl, ?_⟩
        refine sl_dp (K := K) (lo := none) (hi := some 2) (dp_same s1 dh) fun H1 p1 s2 d1_ => ?_
        refine ⟨_, rfl, A_, _, _, _, rfl, rfl, same_tup (s1.trans s2) hA, at2, _, rfl, ?_⟩
        dsimp only [tNoPart]
        refine sl_dp (K := K) (lo := some 1) (hi := none) (dp_same (s1.trans s2) d2) fun H2 p2 s3 d2_ => ?_
        refine ⟨(by show 1 ≤ sizeLine; decide), fun Z4 nZ4 => ?_⟩
        have d4z := tup_dp (K := K) (H := H2) (.cons d2_ .nil) nZ4
        have d1_ := dp_same (s3.trans (same_upd (o := .tup [.ref p2]) nZ4)) d1_
        have s4 := (s2.trans s3).trans (same_upd (o := .tup [.ref p2]) nZ4)
        generalize upd H2 Z4 (.tup [.ref p2]) = H3 at d4z d1_ s4 ⊢
        refine cat_dp (K := K) d1_ d4z (by show 2 + 1 ≤ 1000; decide) fun H4 p4 s5 d5_ => ?_
        refine ⟨_, rfl, _, rfl, _, rfl, ?_⟩
        refine sl_dp (K := K) (lo := some 3) (hi := some 5) (dp_same ((s1.trans s4).trans s5) dh) fun H5 p5 s6 d6_ => ?_
        refine cat_dp (K := K) (dp_same s6 d5_) d6_ (by show 3 + 2 ≤ 1000; decide) fun H6 p6 s7 d7_ => ?_
        have s16 := ((s4.trans s5).trans s6).trans s7
        have hF6 := s16 _ _ hF
        have gv3 : ∀ d ∈ es2 ++ [.tuple ((cutD (hallEs h) none (some 2) ++ [.tuple (cutD (h.ts.map tmD) (some 1) none)]) ++ cutD (hallEs h) (some 3) (some 5))], HaOk d := fun d hd => by
          rcases List.mem_append.mp hd with hd | hd
          · exact gv2 d hd
          · rw [List.mem_singleton.mp hd]
            refine ⟨_, rfl, fun x hx => ?_, .inr ⟨_, _, _, _, _, rfl⟩⟩
            rcases List.mem_append.mp hx with hx | hx
            · rcases List.mem_append.mp hx with hx | hx
              · exact (gel x (cutD_mem hx)).up (by decide)
              · rw [List.mem_singleton.mp hx]
                refine (G1.tup (n := 1) fun d hd => ?_).up (by decide)
                obtain ⟨c, hc, rfl⟩ := List.mem_map.mp (cutD_mem hd)
                exact g1_tm (okh.to c hc)
            · exact (gel x (cutD_mem hx)).up (by decide)
        have sw := sm_wr (H := H6) (S := [F_]) (p := F_) (o := .lst (vs ++ [.ref p6])) (by simp)
        refine ⟨F_, vs, _, rfl, rfl, hF6, by rw [sizeLine_eq]; omega, ?_⟩
        have dv := dpAll_nt (dpAll_app' (dpAll_same s16 dv) (.cons d7_ .nil)) (ha_noL gv3) sw (lst_nt hF6)
        have hF : upd H6 F_ (.lst (vs ++ [.ref p6])) F_ = some (.lst (vs ++ [.ref p6])) := upd_same
        have s1 : Same H (upd H6 F_ (.lst (vs ++ [.ref p6]))) := same_put (s1.trans s16) nF0
        obtain ⟨us3, eus3⟩ : ∃ v, v = vs ++ [.ref p6] := ⟨_, rfl⟩
        obtain ⟨es3, ees3⟩ : ∃ e, e = es2 ++ [.tuple ((cutD (hallEs h) none (some 2) ++ [.tuple (cutD (h.ts.map tmD) (some 1) none)]) ++ cutD (hallEs h) (some 3) (some 5))] := ⟨_, rfl⟩
        have le3 : es3.length ≤ 5 := by rw [ees3, List.length_append]; show es2.length + 1 ≤ 5; omega
        rw [← eus3] at dv hF s1 ⊢
        rw [← ees3] at dv gv3
        have lvs : us3.length = es3.length := dpAll_len dv
        clear hF6 sw s16 s7 d7_ s6 d6_ d5_ s5 s4 d4z d1_ s3 d2_ s2 gv2
        generalize upd H6 F_ (.lst us3) = H9 at dv hF s1 ⊢
        refine ⟨_, rfl, _, rfl, _, rfl, ?_⟩
        refine sl_dp (K := K) (lo := none) (hi := some 3) (dp_same s1 dh) fun H1 p1 s2 d1_ => ?_
        refine ⟨_, rfl, A_, _, _, _, rfl, rfl, same_tup (s1.trans s2) hA, at3, _, rfl, ?_⟩
        dsimp only [tNoPart]
        refine sl_dp (K := K) (lo := some 1) (hi := none) (dp_same (s1.trans s2) d3) fun H2 p2 s3 d2_ => ?_
        have s13 := s2.trans s3
        refine ⟨_, rfl, A_, _, _, _, rfl, rfl, same_tup (s1.trans s13) hA, at4, (by show 2 ≤ sizeLine; decide), fun Z4 nZ4 => ?_⟩
        have d4z := tup_dp (K := K) (H := H2) (.cons d2_ (.cons (.int h.sl) .nil)) nZ4
        have d1_ := dp_same (s3.trans (same_upd (o := .tup [.ref p2, .int h.sl]) nZ4)) d1_
        have s4 := s13.trans (same_upd (o := .tup [.ref p2, .int h.sl]) nZ4)
        generalize upd H2 Z4 (.tup [.ref p2, .int h.sl]) = H3 at d4z d1_ s4 ⊢
        refine cat_dp (K := K) d1_ d4z (by show 3 + 2 ≤ 1000; decide) fun H4 p4 s5 d5_ => ?_
        have s15 := s4.trans s5
        refine ⟨_, rfl, _, rfl, ?_⟩
        refine sl_dp (K := K) (lo := none) (hi := some 4) (dp_same (s1.trans s15) dh) fun H5 p5 s6 d6_ => ?_
        have s16 := s15.trans s6
        have d5_ := dp_same s6 d5_
        have fin : ∀ (H7 : Hp) (y : V) (ee : List PyData), Same H5 H7 → Dp K H7 y (.tuple ee) → (ee = [.int (60 - h.sl)] ∨ ee = []) → rCatA K (.ref p5) y H7 (fun x H1 => ([V.ref p4, x].length ≤ sizeLine ∧ ∀ p, H1 p = none → rCat (.ref F_) (.ref p) (upd H1 p (.lst [.ref p4, x])) Q)) := by
          intro H7 y ee s7 d7_ ce
          refine cat_dp (K := K) (dp_same s7 d6_) d7_ (by
            rcases ce with rfl | rfl
            · show 4 + 1 ≤ 1000; decide
            · show 4 + 0 ≤ 1000; decide) fun H8 p8 s8 d8_ => ?_
          refine ⟨(by show 2 ≤ sizeLine; decide), fun L nL => ?_⟩
          have sL := same_upd (o := .lst [.ref p4, .ref p8]) nL
          have hL : upd H8 L (.lst [.ref p4, .ref p8]) L = some (.lst [.ref p4, .ref p8]) := upd_same
          have s9 := (s7.trans s8).trans sL
          have d8_ := dp_same sL d8_
          generalize upd H8 L (.lst [.ref p4, .ref p8]) = Ha at hL s9 d8_ ⊢
          have s19 := s16.trans s9
          refine ⟨F_, L, us3, _, rfl, rfl, s19 _ _ hF, hL, by rw [sizeLine_eq, lvs]; show es3.length + 2 ≤ _; omega, fun p np => ?_⟩
          have sp := same_upd (o := .lst (us3 ++ [.ref p4, .ref p8])) np
          refine q _ p _ (es3 ++ [.tuple (cutD (hallEs h) none (some 3) ++ [.tuple (cutD (h.ps.map PyData.str) (some 1) none), .int h.sl]), .tuple (cutD (hallEs h) none (some 4) ++ ee)]) (s1.trans (s19.trans sp)) upd_same (dpAll_app' (dpAll_same (s19.trans sp) dv) (.cons (dp_same (s9.trans sp) d5_) (.cons (dp_same sp d8_) .nil))) (fun d hd => ?_) (by rw [List.length_append]; show es3.length + 2 ≤ 20; omega)
          rcases List.mem_append.mp hd with hd | hd
          · exact gv3 d hd
          simp only [List.mem_cons, List.not_mem_nil, or_false] at hd
          rcases hd with rfl | rfl
          · refine ⟨_, rfl, fun x hx => ?_, .inr ⟨_, _, _, _, _, rfl⟩⟩
            rcases List.mem_append.mp hx with hx | hx
            · exact (gel x (cutD_mem hx)).up (by decide)
            · simp only [List.mem_cons, List.not_mem_nil, or_false] at hx
              rcases hx with rfl | rfl
              · refine (G1.tup (n := 0) fun d hd => ?_).up (by decide)
                obtain ⟨c, hc, rfl⟩ := List.mem_map.mp (cutD_mem hd)
                exact .str _ (okh.po c hc)
              · exact .int _ _
          · refine ⟨_, rfl, fun x hx => ?_, ?_⟩
            · rcases List.mem_append.mp hx with hx | hx
              · exact (gel x (cutD_mem hx)).up (by decide)
              · rcases ce with rfl | rfl
                · rw [List.mem_singleton.mp hx]; exact .int _ _
                · exact (List.not_mem_nil hx).elim
            · rcases ce with rfl | rfl
              · exact .inr ⟨_, _, _, _, _, rfl⟩
              · exact .inl (by show 4 ≠ 5; decide)
        refine ⟨_, rfl, A_, _, _, _, rfl, rfl, same_tup (s1.trans s16) hA, at4, _, _, rfl, rfl, (by show 1 ≤ sizeLine; decide), fun Z nZ => ?_⟩
        have dz := tup_dp (K := K) (H := H5) (.cons (.int (60 - h.sl)) .nil) nZ
        have sz := same_upd (o := .tup [.int (60 - h.sl)]) nZ
        have hZ : upd H5 Z (.tup [.int (60 - h.sl)]) Z = some (.tup [.int (60 - h.sl)]) := upd_same
        generalize upd H5 Z (.tup [.int (60 - h.sl)]) = H6 at dz sz hZ ⊢
        refine ⟨_, rfl, A_, _, _, _, rfl, rfl, same_tup ((s1.trans s16).trans sz) hA, at4, rfl, .inr ⟨_, rfl, ?_⟩⟩
        refine ⟨Z, _, _, rfl, rfl, SqT.of hZ, (by intro z; cases z), ?_, fun _ => fin _ _ _ sz dz (.inl rfl), fun _ p np => fin _ _ _ (sz.trans (same_upd np)) (.tup (SqT.of upd_same) .nil) (.inr rfl)⟩
        split
        · exact .inr rfl
        · exact .inl rfl

end
end Pot

namespace Pot
open PySem PySem.Spec PyProof.Rows L2
section
variable {P : Program} {w : World} {K : PySem.W.Frag} {mg : Str → Option Value} {base : Heap}
def rbTS (K : PySem.W.Frag) (C CS : Addr) (s : Nat) : TS := tFor (iList K (tVar 7)) (gTup K 3 (gCons (gName 5) (gCons (gName 4) (gCons (gName 6) gNil)))) (tWhile (tTest (tOp (rI0 fun i j => V.bl (decide (i < j))) (tMeth C "enter" (spBE K C) [] E0 (tVar s) (tCons (tVar 6) (tCons (tVar 4) tNil))) (tVar 5))) (tDrop (tMethX C "strike" (spBS K C CS) [] (WE fun _ _ _ _ => False) (tVar s) (tCons (tCB (rMax K) (tCons (tLc (iList K (tMeth C "entries" (spBN K C) [] E0 (tVar s) tNil)) (gName 11) tYes (tOp (rIxT K) (tVar 11) (tC (V.int 1))) (List.map (fun x => x.snd) [(("_law_row" : Str), 11)])) tNil)) tNil))))
abbrev Rw3 := Int × Int × Deed
def r3D (r : Rw3) : PyData := .tuple [.int r.1, .int r.2.1, dD r.2.2]
def enR (r : Rw3) : Int × Int × Deed := (r.2.1, r.1, r.2.2)
theorem noL_r3 (r : Rw3) : noLAll.noL (r3D r) := ⟨trivial, trivial, noL_dD _, trivial⟩
theorem next_one {rs : List Row} {n m : Int} (nn : ∀ r ∈ rs, 0 ≤ r.1) (h : Next rs n) (g : Next rs m) : n = m := by
  rcases h.2 with h2 | ⟨r, hr, h2⟩ <;> rcases g.2 with g2 | ⟨r', hr', g2⟩
  · omega
  · have := h.1 r' hr'; have := nn r' hr'; omega
  · have := g.1 r hr; have := nn r hr; omega
  · have := h.1 r' hr'; have := g.1 r hr; omega
/-- made anew so far -/
structure Rb (K : PySem.W.Frag) (C : Addr) (Hx : Hp) (p : Addr) (v1 v2 v3 v4 : V) (sl : Int) (tl : Addr) (rs : List Row) (Rs : List Rw3) (c : Int) : Prop where
  bk : BkAt K C Hx p v1 v2 v3 v4 sl tl rs
  nx : Next rs c
  nn : ∀ r ∈ rs, 0 ≤ r.1
  en : entF (lastF rs) = Rs.map enR
  ln : (rs.length : Int) ≤ 2 * c
theorem rb_ok {C CS RL p tl : Addr} {s : Nat} {v1 v2 v3 v4 : V} {sl : Int} {us : List V} {Rs : List Rw3} {x0 x1 x2 x3 x8 x9 x10 : Option V} {H : Hp} {D : Ends} {a4 a5 a6 a11 : Option V}
    (hs : ∀ a4 a5 a6 a11, [x0, x1, x2, x3, a4, a5, a6, some (V.ref RL), x8, x9, x10, a11][s]? = some (some (V.ref p))) (hRL : H RL = some (.lst us)) (dRL : DpAll K H us (Rs.map r3D)) (ne : RL ≠ tl)
    (M0 : BkAt K C H p v1 v2 v3 v4 sl tl []) (up : Rs.Pairwise fun a b => a.1 < b.1) (n0 : ∀ r ∈ Rs, 0 ≤ r.1 ∧ r.1 ≤ 450) (dk : ∀ r ∈ Rs, DeedOk r.2.2)
    (q : ∀ (Hx : Hp) (a4 a5 a6 a11 : Option V) (rs : List Row) (c : Int), Sm [tl] H Hx → Rb K C Hx p v1 v2 v3 v4 sl tl rs Rs c → c ≤ 451 → D.nx [x0, x1, x2, x3, a4, a5, a6, some (V.ref RL), x8, x9, x10, a11] Hx) :
    rbTS K C CS s D [x0, x1, x2, x3, a4, a5, a6, some (V.ref RL), x8, x9, x10, a11] H := by
  have no : ∀ {m : Str}, (m == ("palette" : Str)) = false → (m == ("kinds" : Str)) = false → (m == ("teams" : Str)) = false → (m == ("pots" : Str)) = false → (m == ("slots" : Str)) = false → (m == ("told" : Str)) = false → (bkF v1 v2 v3 v4 sl tl).lookup m = none := fun a b c d e f => bk_no a b c d e f
  refine ⟨_, rfl, RL, rfl, ⟨_, SqL.of hRL⟩, ?_⟩
  refine for_it (walk_list (xs := us)) (fun i σ Hx => ∃ a4 a5 a6 a11 rs c, σ = [x0, x1, x2, x3, a4, a5, a6, some (V.ref RL), x8, x9, x10, a11] ∧ Sm [tl] H Hx ∧ Rb K C Hx p v1 v2 v3 v4 sl tl rs (Rs.take i) c ∧ (∀ r ∈ Rs.drop i, c ≤ r.1) ∧ c ≤ 451 ∧ 0 ≤ c)
    ⟨_, _, _, _, [], 0, rfl, Same.refl _, ⟨M0, ⟨fun _ h => (List.not_mem_nil h).elim, .inl rfl⟩, fun _ h => (List.not_mem_nil h).elim, rfl, by show (0 : Int) ≤ 2 * 0; omega⟩, fun r hr => (n0 r (by simpa using hr)).1, by omega, by omega⟩ (fun i σ Hx _ h => by
      obtain ⟨_, _, _, _, _, _, _, s0, _⟩ := h
      exact SqL.of (sm1_at s0 ne hRL)) ?_ ?_
  · rintro i y σ Ha Hb hi ⟨a4, a5, a6, a11, rs, c, rfl, s0, D0, lo, c9, c0⟩ ⟨rfl, gy⟩
    obtain ⟨r, gr, dy⟩ := dpAll_get dRL gy
    obtain ⟨T_, xs, rfl, hT, dx⟩ := dp_tup dy
    cases dx with | cons e1 dx => ?_
    cases dx with | cons e2 dx => ?_
    cases dx with | cons dz dx => ?_
    cases dx
    cases e1
    cases e2
    rename_i z
    obtain ⟨_, hl0, _⟩ := M0.li
    have hT0 := hT
    have ntl : NT [tl] H := lst_nt hl0
    have rm := List.mem_of_getElem? gr
    obtain ⟨r0, r9⟩ := n0 r rm
    have cr : c ≤ r.1 := lo r (List.mem_iff_getElem?.mpr ⟨0, by rw [List.getElem?_drop]; exact gr⟩)
    refine ⟨T_, _, rfl, sqT_nt hT s0 ntl, rfl, _, _, rfl, _, _, rfl, _, _, rfl, rfl, ?_⟩
    simp only [List.set]
    refine ⟨fun k σ Hx => ∃ a11 rs c, k = (r.1 - c).toNat ∧ σ = [x0, x1, x2, x3, some (V.int r.2.1), some (V.int r.1), some z, some (V.ref RL), x8, x9, x10, a11] ∧ Sm [tl] H Hx ∧ Rb K C Hx p v1 v2 v3 v4 sl tl rs (Rs.take i) c ∧ c ≤ r.1 ∧ 0 ≤ c, ⟨_, a11, rs, c, rfl, rfl, s0, D0, cr, c0⟩, ?_⟩
    clear D0 cr s0 lo c9 c0 rs
    rintro k σ Hx ⟨a11, rs, c, rfl, rfl, s0, D0, cr, c0⟩
    obtain ⟨dxp, hp⟩ := D0.bk.ob
    have lrs : rs.length ≤ 1000 := by have := D0.ln; omega
    have dzx := dp_nt dz (noL_dD r.2.2) s0 ntl
    refine ⟨_, hs _ _ _ _, p, dxp, _, rfl, hp, no (by decide +kernel) (by decide +kernel) (by decide +kernel) (by decide +kernel) (by decide +kernel) (by decide +kernel), _, rfl, _, rfl, p, tl, v1, v2, v3, v4, z, sl, r.2.1, rs, r.2.2, rfl, D0.bk, dzx, lrs, D0.nn, fun Hb c' nx' sb Mb => ?_⟩
    cases next_one D0.nn D0.nx nx'
    obtain ⟨_, hlx, _⟩ := D0.bk.li
    have s1 := s0.trans sb
    have nn1 : ∀ x ∈ rs ++ [(c, some (r.2.1, r.2.2))], 0 ≤ x.1 := fun x hx => by
      rcases List.mem_append.mp hx with hx | hx
      · exact D0.nn x hx
      · rw [List.mem_singleton.mp hx]; exact c0
    refine ⟨_, rfl, _, _, rfl, rfl, _, rfl, ite2 (fun lt => ?_) (fun ge => ?_)⟩
    · have lt : c < r.1 := of_decide_eq_true lt
      refine ⟨fun σ Hx => ∃ a11 rs, σ = [x0, x1, x2, x3, some (V.int r.2.1), some (V.int r.1), some z, some (V.ref RL), x8, x9, x10, a11] ∧ Sm [tl] H Hx ∧ Rb K C Hx p v1 v2 v3 v4 sl tl rs (Rs.take i) (c + 1), fun σ' H' ⟨a11, rs, e, s', D'⟩ => ⟨(r.1 - (c + 1)).toNat, by omega, a11, rs, c + 1, rfl, e, s', D', by omega, by omega⟩, ?_⟩
      have lr1 : (rs ++ [(c, some (r.2.1, r.2.2))]).length ≤ 1000 := by rw [List.length_append]; have := D0.ln; show rs.length + 1 ≤ 1000; omega
      obtain ⟨dxb, hpb⟩ := Mb.ob
      refine ⟨_, hs _ _ _ _, p, dxb, _, rfl, hpb, no (by decide +kernel) (by decide +kernel) (by decide +kernel) (by decide +kernel) (by decide +kernel) (by decide +kernel), ?_⟩
      refine ⟨_, hs _ _ _ _, p, dxb, _, rfl, hpb, no (by decide +kernel) (by decide +kernel) (by decide +kernel) (by decide +kernel) (by decide +kernel) (by decide +kernel), p, tl, v1, v2, v3, v4, sl, _, rfl, Mb, lr1, fun Hc R us2 sc nR hR dR => ?_⟩
      rw [show entsD (rs ++ [(c, some (r.2.1, r.2.2))]) = (entS (lastF (rs ++ [(c, some (r.2.1, r.2.2))]))).map entD from entsL_eq _] at dR
      have lw : us2.length = (entS (lastF (rs ++ [(c, some (r.2.1, r.2.2))]))).length := dpAll_map_len dR
      have le : (entS (lastF (rs ++ [(c, some (r.2.1, r.2.2))]))).length ≤ 1000 := by rw [entS_len]; exact Nat.le_trans (Nat.le_trans (entF_len _) (lastF_le _)) lr1
      have Mb := Mb.same sc
      refine ⟨R, rfl, ⟨_, SqL.of hR⟩, fun X nX => ?_⟩
      refine lc_it (walk_list (xs := us2)) (fun j Hx => Same Hc Hx ∧ Hx X = some (.lst ((((entS (lastF (rs ++ [(c, some (r.2.1, r.2.2))]))).take j).map fun e => e.2.1).map V.int))) ⟨same_upd nX, upd_same⟩ (fun j Hx _ h => SqL.of (h.1 _ _ hR)) ?_ ?_
      · rintro j y He Hf hj ⟨sx, hX⟩ ⟨rfl, gy2⟩
        obtain ⟨e, ge, de⟩ := dpAll_get dR gy2
        obtain ⟨u, us3, rfl, hu1, d3⟩ := dp_tup (dp_same sx de)
        obtain ⟨y3, rfl⟩ := ent_row d3
        refine ⟨rfl, tYes_at ?_⟩
        rw [if_pos rfl]
        refine ⟨_, rfl, u, _, 1, _, rfl, rfl, hu1, rfl, _, hX, ?_, same_put sx nX, ?_⟩
        · rw [List.length_map, List.length_map, List.length_take, sizeLine_eq]; omega
        · rw [upd_same, List.take_add_one, ge, List.map_append, List.map_append]; rfl
      rintro Hd ⟨sd, hX⟩
      rw [lw, List.take_length] at hX
      have mp : (entS (lastF (rs ++ [(c, some (r.2.1, r.2.2))]))).Perm (entF (lastF (rs ++ [(c, some (r.2.1, r.2.2))]))) := List.mergeSort_perm _ _
      have inE : (r.2.1, c, r.2.2) ∈ entF (lastF (rs ++ [(c, some (r.2.1, r.2.2))])) := by rw [reb_enter D0.nx]; simp
      refine ⟨X, _, rfl, SqL.of hX, by rw [List.length_map]; exact List.length_pos_of_mem (mp.mem_iff.mpr inE), fun m mm lm => ?_⟩
      have em : m = c := reb_max D0.nx ((mp.map _).mem_iff.mp mm) (fun y hy => lm y ((mp.map _).mem_iff.mpr hy))
      subst em
      have Mb := Mb.same sd
      refine ⟨p, tl, v1, v2, v3, v4, sl, m, _, rfl, Mb, lr1, fun _ He se Me => ?_, fun z => absurd ⟨_, inE, rfl⟩ z⟩
      refine ⟨_, _, rfl, ((s1.trans (sm_of (sc.trans sd))).trans se), Me, next_again _ _ D0.nx, fun x hx => ?_, ?_, ?_⟩
      · rcases List.mem_append.mp hx with hx | hx
        · exact nn1 x hx
        · rw [List.mem_singleton.mp hx]; exact c0
      · rw [reb_strike D0.nx]; exact D0.en
      · rw [List.length_append, List.length_append]; have := D0.ln; show ((rs.length + 1 + 1 : Nat) : Int) ≤ _; omega
    · have ge : ¬ c < r.1 := fun z => ge (decide_eq_true z)
      have ec : c = r.1 := by omega
      subst ec
      refine ⟨_, _, _, _, _, r.1 + 1, rfl, s1, ⟨Mb, next_snoc _ D0.nx, nn1, ?_, ?_⟩, fun x hx => ?_, by omega, by omega⟩
      · rw [reb_enter D0.nx, D0.en, List.take_add_one, gr, List.map_append]; rfl
      · rw [List.length_append]; have := D0.ln; show ((rs.length + 1 : Nat) : Int) ≤ _; omega
      · obtain ⟨j, gj⟩ := List.mem_iff_getElem?.mp hx
        rw [List.getElem?_drop] at gj
        obtain ⟨l1, e1⟩ := List.getElem?_eq_some_iff.mp gr
        obtain ⟨l2, e2⟩ := List.getElem?_eq_some_iff.mp gj
        have := List.pairwise_iff_getElem.mp up i (i + 1 + j) l1 l2 (by omega)
        rw [e1, e2] at this
        omega
  · rintro σ Hx ⟨a4, a5, a6, a11, rs, c, rfl, s0, D0, lo, c9, c0⟩
    have lu : us.length = Rs.length := dpAll_map_len dRL
    rw [lu, List.take_length] at D0
    exact q _ _ _ _ _ _ _ s0 D0 c9

end
end Pot

namespace Pot
open PySem PySem.Spec PyProof.Rows L2
section
variable {P : Program} {w : World} {K : PySem.W.Frag} {mg : Str → Option Value} {base : Heap}
/-- a Book that has a hall's things -/
structure BkH (K : PySem.W.Frag) (C : Addr) (H : Hp) (h : Hall) (p tl : Addr) (v1 v2 v3 v4 : V) (rs : List Row) : Prop where
  bk : BkAt K C H p v1 v2 v3 v4 h.sl tl rs
  d1 : Dp K H v1 (palD h.cs h.ws)
  d2 : Dp K H v2 (.tuple (h.ks.map kdD))
  d3 : Dp K H v3 (.tuple (h.ts.map tmD))
  d4 : Dp K H v4 (.tuple (h.ps.map PyData.str))
theorem BkH.same {C : Addr} {H H' : Hp} {h : Hall} {p tl : Addr} {v1 v2 v3 v4 : V} {rs : List Row} (M : BkH K C H h p tl v1 v2 v3 v4 rs) (s : Same H H') : BkH K C H' h p tl v1 v2 v3 v4 rs := ⟨M.bk.same s, dp_same s M.d1, dp_same s M.d2, dp_same s M.d3, dp_same s M.d4⟩
/-- its things stand though it is told more -/
theorem BkH.told {C : Addr} {H H' : Hp} {h : Hall} {p tl : Addr} {v1 v2 v3 v4 : V} {rs rs' : List Row} {S : List Addr} (M : BkH K C H h p tl v1 v2 v3 v4 rs) (o : HallOk h) (s : Sm S H H') (nt : NT S H) (b : BkAt K C H' p v1 v2 v3 v4 h.sl tl rs') : BkH K C H' h p tl v1 v2 v3 v4 rs' := by
  have g := g1_hels o
  unfold hallEs at g
  exact ⟨b, dp_nt M.d1 (g _ (by simp)).1 s nt, dp_nt M.d2 (g _ (by simp)).1 s nt, dp_nt M.d3 (g _ (by simp)).1 s nt, dp_nt M.d4 (g _ (by simp)).1 s nt⟩
def spAB (K : PySem.W.Frag) (C : Addr) : Sp := fun vs H Q _ => ∃ (a : V) (h : Hall), vs = [a] ∧ Dp K H a (hallD h) ∧ ∀ (H' : Hp) (p tl : Addr) (v1 v2 v3 v4 : V), Same H H' → H p = none → H tl = none → BkH K C H' h p tl v1 v2 v3 v4 [] → Q (.ref p) H'
abbrev s__law_a_book : Stmt := topS 14
def n__law_a_book : List Str := ["_law_hall"]
theorem sc__law_a_book : FnScope n__law_a_book ["_law_hall"] (defScope s__law_a_book) := ⟨rfl, rfl, rfl, by decide +kernel, rfl, by decide +kernel, by decide +kernel⟩
theorem ok_ab {C CS f : Addr} {fd : FuncData} {k : Nat} (F : Fun K "_law_a_book" "_law_a_book" s__law_a_book f fd) (T : Txt mg) (O : BkC P w K mg base C CS) : FnOk P w K mg base CX0 (k + 3) f fd ["_law_hall"] (spAB K C) := by
  refine F.ok sc__law_a_book (fun vs H Q E h => ?_) (fun cdv A outer s H vs Q E hr h => ?_)
  · obtain ⟨a, h, rfl, _⟩ := h
    rfl
  · obtain ⟨a, h, rfl, da, q⟩ := h
    have nd := sc__law_a_book.nd
    have mk_Book := O.make
    /- 0 _law_hall -/
    refine ⟨_, (pss_one (ps_ret (pe_omk mk_Book hr (by omega) (by rfl) (pa_cons (pe_ix (kx_tup (K := K)) (pv 0) pe_int (fun _ _ => rfl)) (pa_cons (pe_ix (kx_tup (K := K)) (pv 0) pe_int (fun _ _ => rfl)) (pa_cons (pe_ix (kx_tup (K := K)) (pv 0) pe_int (fun _ _ => rfl)) (pa_cons (pe_ix (kx_tup (K := K)) (pv 0) pe_int (fun _ _ => rfl)) (pa_cons (pe_ix (kx_tup (K := K)) (pv 0) pe_int (fun _ _ => rfl)) pa_nil)))))))), ?_⟩
    obtain ⟨a0, xs, rfl, ha, dx⟩ := dp_tup da
    cases dx with | cons d0 dx => ?_
    cases dx with | cons d1 dx => ?_
    cases dx with | cons d2 dx => ?_
    cases dx with | cons d3 dx => ?_
    cases dx with | cons d4 dx => ?_
    cases dx with | cons d5 dx => ?_
    cases dx
    cases d4
    refine ⟨_, rfl, a0, _, 0, _, rfl, rfl, ha, rfl, _, rfl, a0, _, 1, _, rfl, rfl, ha, rfl, _, rfl, a0, _, 2, _, rfl, rfl, ha, rfl, _, rfl, a0, _, 3, _, rfl, rfl, ha, rfl, _, rfl, a0, _, 4, _, rfl, rfl, ha, rfl, ?_⟩
    intro q2 dq nq2 ndq neq
    exact ⟨H, q2, dq, _, _, _, _, h.sl, rfl, ins_new nq2 ndq neq, nq2, upd_same, fun H1 tl2 s1 nt2 ne2 M2 => ⟨rfl, q _ _ _ _ _ _ _ s1 nq2 nt2 ⟨M2, dp_same s1 d0, dp_same s1 d1, dp_same s1 d2, dp_same s1 d3⟩⟩⟩

def xH (h : Hall) : BkV := ⟨palD h.cs h.ws, .tuple (h.ks.map kdD), .tuple (h.ts.map tmD), .tuple (h.ps.map PyData.str), h.sl⟩
theorem G1.sh {n : Nat} {d : PyData} (g : G1 n d) (l : n ≤ 60) : SeqAt.shaped d = true := by
  obtain ⟨m, hm⟩ := g.2.1
  exact gd_shaped (m := m) hm (Nat.le_trans g.2.2 (by omega))
theorem G1.eq {n : Nat} {d : PyData} (g : G1 n d) : PyData.eqv d d = true := by
  obtain ⟨m, hm⟩ := g.2.1
  exact SeqAt.eqv_refl _ (gd_lay _ hm)
theorem BkH.x {C : Addr} {H : Hp} {h : Hall} {p tl : Addr} {v1 v2 v3 v4 : V} {rs : List Row} (M : BkH K C H h p tl v1 v2 v3 v4 rs) (o : HallOk h) (g : ∃ m, gd m (.list (entsD rs))) (l : rs.length ≤ 1000) : BkX K C H p (xH h) tl rs := by
  have e := g1_hels o
  unfold hallEs at e
  obtain ⟨m, hm⟩ := g
  exact ⟨⟨v1, v2, v3, v4, M.bk, M.d1, M.d2, M.d3, M.d4⟩, (e (palD h.cs h.ws) (by simp)).sh (by decide), (e (.tuple (h.ks.map kdD)) (by simp)).sh (by decide), (e (.tuple (h.ts.map tmD)) (by simp)).sh (by decide), (e (.tuple (h.ps.map PyData.str)) (by simp)).sh (by decide), gd_shaped (m := m) hm (by have := ents_depth rs; omega), l⟩
theorem eqB_same {h : Hall} {rs ss : List Row} (o : HallOk h) (e : entsD rs = entsD ss) (g : ∃ m, gd m (.list (entsD ss))) : eqB (xH h) (xH h) rs ss = true := by
  have a := g1_hels o
  unfold hallEs at a
  obtain ⟨m, hm⟩ := g
  unfold eqB xH
  dsimp only
  rw [(a (palD h.cs h.ws) (by simp)).eq, (a (.tuple (h.ks.map kdD)) (by simp)).eq, (a (.tuple (h.ts.map tmD)) (by simp)).eq, (a (.tuple (h.ps.map PyData.str)) (by simp)).eq, e, SeqAt.eqv_refl _ (gd_lay _ hm), decide_eq_true rfl]
  rfl
theorem eqv_tup (xs ys : List PyData) : PyData.eqv (.tuple xs) (.tuple ys) = PyData.eqvAll xs ys := by rw [PyData.eqv]
theorem eqv_lst (xs ys : List PyData) : PyData.eqv (.list xs) (.list ys) = PyData.eqvAll xs ys := by rw [PyData.eqv]
theorem eqvAll_len : ∀ {xs ys : List PyData}, PyData.eqvAll xs ys = true → xs.length = ys.length
  | [], [], _ => rfl
  | x :: xs, y :: ys, h => by
    rw [PySem.W.eqv_all_cons, Bool.and_eq_true] at h
    rw [List.length_cons, List.length_cons, eqvAll_len h.2]
  | [], y :: ys, h => by simp [PyData.eqvAll] at h
  | x :: xs, [], h => by simp [PyData.eqvAll] at h
theorem eqB_other {h : Hall} {d1 d2 d3 d4 : PyData} {i : Int} {rs ss : List Row} (ne : PyData.eqv (.tuple [d1, d2, d3, d4, .int i]) (.tuple [palD h.cs h.ws, .tuple (h.ks.map kdD), .tuple (h.ts.map tmD), .tuple (h.ps.map PyData.str), .int h.sl]) = false) : eqB ⟨d1, d2, d3, d4, i⟩ (xH h) rs ss = false := by
  rw [eqv_tup, PySem.W.eqv_all_cons, PySem.W.eqv_all_cons, PySem.W.eqv_all_cons, PySem.W.eqv_all_cons, PySem.W.eqv_all_cons] at ne
  have e5 : PyData.eqv (.int i) (.int h.sl) = decide (i = h.sl) := by simp [PyData.eqv]; rfl
  rw [e5, show PyData.eqvAll [] [] = true by simp [PyData.eqvAll]] at ne
  unfold eqB xH
  dsimp only
  revert ne
  cases PyData.eqv d1 (palD h.cs h.ws) <;> cases PyData.eqv d2 (.tuple (h.ks.map kdD)) <;> cases PyData.eqv d3 (.tuple (h.ts.map tmD)) <;> cases PyData.eqv d4 (.tuple (h.ps.map PyData.str)) <;> cases decide (i = h.sl) <;> simp
theorem eqB_len {x y : BkV} {rs ss : List Row} (ne : (entsD rs).length ≠ (entsD ss).length) : eqB x y rs ss = false := by
  have e : PyData.eqv (.list (entsD rs)) (.list (entsD ss)) = false := by
    cases c : PyData.eqv (.list (entsD rs)) (.list (entsD ss)) with
    | false => rfl
    | true => rw [eqv_lst] at c; exact absurd (eqvAll_len c) ne
  unfold eqB
  rw [e]
  simp
def swR (e : Int × Int × Deed) : Rw3 := (e.2.1, e.1, e.2.2)
/-- the entries by their numbers -/
def rowsR (rs : List Row) : List Rw3 := ((entS (lastF rs)).map swR).mergeSort (PySem.W.dataLe false r3D)
theorem rowsR_eq (rs : List Row) : (((entS (lastF rs)).map swR).map r3D).mergeSort (PySem.W.dataLe false fun d => d) = (rowsR rs).map r3D := (List.map_mergeSort (r := PySem.W.dataLe false r3D) (s := PySem.W.dataLe false fun d => d) (f := r3D) fun _ _ _ _ => rfl).symm
theorem rowsR_perm (rs : List Row) : ((rowsR rs).map enR).Perm (entF (lastF rs)) := by
  have h := (List.mergeSort_perm ((entS (lastF rs)).map swR) (PySem.W.dataLe false r3D)).map enR
  rw [List.map_map] at h
  have e : enR ∘ swR = id := rfl
  rw [e, List.map_id] at h
  exact h.trans (List.mergeSort_perm _ _)
theorem rowsR_mem {rs : List Row} {r : Rw3} (h : r ∈ rowsR rs) : enR r ∈ entF (lastF rs) := (rowsR_perm rs).mem_iff.mp (List.mem_map.mpr ⟨r, h, rfl⟩)
theorem entF_nd {l : List Row} (nd : (l.map fun r => r.1).Nodup) : ((entF l).map fun e => e.2.1).Nodup := by
  induction l with
  | nil => exact List.nodup_nil
  | cons r m ih =>
    obtain ⟨a1, a2⟩ := List.nodup_cons.mp nd
    have ih := ih a2
    obtain ⟨n, o⟩ := r
    cases o with
    | none => exact ih
    | some e =>
      refine List.nodup_cons.mpr ⟨fun z => a1 ?_, ih⟩
      obtain ⟨x, hx, ex⟩ := List.mem_map.mp z
      exact List.mem_map.mpr ⟨_, entF_mem hx, ex⟩
theorem rowsR_up (rs : List Row) : (rowsR rs).Pairwise fun a b => a.1 < b.1 := by
  have h := dl_pairI r3D ((entS (lastF rs)).map swR)
  have p : ((rowsR rs).map fun r => r.1).Nodup := by
    have := ((rowsR_perm rs).map fun e => e.2.1).nodup_iff.mpr (entF_nd (lastF_nodup rs))
    rw [List.map_map] at this
    exact this
  unfold List.Nodup at p
  rw [List.pairwise_map] at p
  refine (h.and p).imp fun {a b} h => ?_
  obtain ⟨h1, h2⟩ := h
  unfold r3D at h1
  rw [PySem.W.dataLt_tuple, PySem.W.dataLt_cons rfl, if_neg (by simp [PyData.eqv]; exact fun z => h2 z.symm), PySem.W.dataLt_int] at h1
  have := of_decide_eq_false h1
  omega
theorem rowsR_cmp (rs : List Row) : RowsCmp (((entS (lastF rs)).map swR).map r3D) := by
  have un : ∀ a ∈ (entS (lastF rs)).map swR, ∀ b ∈ (entS (lastF rs)).map swR, a.1 = b.1 → a = b := fun a ha b hb e => by
    obtain ⟨x, hx, rfl⟩ := List.mem_map.mp ha
    obtain ⟨y, hy, rfl⟩ := List.mem_map.mp hb
    rw [entF_one (lastF_nodup rs) (mem_entS.mp hx) (mem_entS.mp hy) e]
  refine ⟨fun d hd => ?_, fun x r x2 r2 h1 h2 => ?_, fun xs ys h1 h2 => ?_⟩
  · obtain ⟨c, _, rfl⟩ := List.mem_map.mp hd
    exact ⟨_, _, rfl⟩
  · obtain ⟨c, _, e⟩ := List.mem_map.mp h1
    obtain ⟨c2, _, e2⟩ := List.mem_map.mp h2
    obtain ⟨rfl, _⟩ := List.cons.inj (PyData.tuple.inj e)
    obtain ⟨rfl, _⟩ := List.cons.inj (PyData.tuple.inj e2)
    rfl
  · obtain ⟨c, m1, e⟩ := List.mem_map.mp h1
    obtain ⟨c2, m2, e2⟩ := List.mem_map.mp h2
    cases PyData.tuple.inj e
    cases PyData.tuple.inj e2
    by_cases q : c.1 = c2.1
    · cases un c m1 c2 m2 q
      simp [okCmp, PySem.W.alike, al_dD]
    · simp [okCmp, PySem.W.alike, PyData.eqv, q]
theorem r3_depth (r : Rw3) : (r3D r).depth ≤ 60 := by
  have := dD_depth r.2.2
  simp only [r3D, PyData.depth, PyData.depthAll]
  omega
theorem num_lt {ts : List Turn} (g : Good ts) (n : Num ts) : ∀ t ∈ ts, 0 ≤ t.n ∧ t.n < (ts.length : Int) := fun t ht => by
  refine ⟨g.1 t ht, ?_⟩
  obtain ⟨i, gi⟩ := List.mem_iff_getElem?.mp ht
  obtain ⟨j, t', _, gj, hn, e⟩ := g.2 i t gi
  have hm : t.n ∈ newN ts := List.mem_map.mpr ⟨t', List.mem_filter.mpr ⟨List.mem_of_getElem? gj, hn⟩, e⟩
  rw [n] at hm
  obtain ⟨m, hm, e⟩ := List.mem_map.mp hm
  have l1 := List.mem_range.mp hm
  have l2 : (newN ts).length ≤ ts.length := by unfold newN; rw [List.length_map]; exact List.length_filter_le _ _
  omega
theorem ent_ok {ts : List Turn} (dk : ∀ t ∈ ts, ∀ d, t.d = some d → DeedOk d) : ∀ e ∈ entF (lastF (ts.map rowOf)), DeedOk e.2.2 := fun e he => by
  obtain ⟨t, ht, _, _, hd⟩ := ent_turn he
  exact dk t ht _ hd
def hall5 (h : Hall) : List PyData := [palD h.cs h.ws, .tuple (h.ks.map kdD), .tuple (h.ts.map tmD), .tuple (h.ps.map PyData.str), .int h.sl]
theorem wid_tup {ds : List PyData} {n : Nat} (l : ds.length ≤ n) (h : ∀ d ∈ ds, widAll.wid d ≤ n) : widAll.wid (.tuple ds) ≤ n := by
  have := widAll_le h
  simp only [widAll.wid]
  omega
theorem hall5_wid {h : Hall} (o : HallOk h) : widAll.wid (.tuple (hall5 h)) ≤ 1000 := by
  refine wid_tup (by show 5 ≤ 1000; decide) fun d hd => ?_
  unfold hall5 at hd
  simp only [List.mem_cons, List.not_mem_nil, or_false] at hd
  rcases hd with rfl | rfl | rfl | rfl | rfl
  · refine wid_tup (by show 2 ≤ 1000; decide) fun d hd => ?_
    simp only [List.mem_cons, List.not_mem_nil, or_false] at hd
    rcases hd with rfl | rfl
    · refine wid_tup (by rw [List.length_map]; exact Nat.le_trans o.c2 (by decide)) fun d hd => ?_
      obtain ⟨c, _, rfl⟩ := List.mem_map.mp hd
      exact Nat.le_trans (show widAll.wid (colD c) ≤ 4 by simp [colD, widAll.wid, widAll]) (by decide)
    · refine wid_tup (by rw [List.length_map]; exact Nat.le_trans o.w2 (by decide)) fun d hd => ?_
      obtain ⟨⟨a, b, c⟩, _, rfl⟩ := List.mem_map.mp hd
      exact Nat.le_trans (show widAll.wid (washD (a, b, c)) ≤ 3 by cases c <;> simp [washD, optD, widAll.wid, widAll]) (by decide)
  · refine wid_tup (by rw [List.length_map]; exact Nat.le_trans o.k2 (by decide)) fun d hd => ?_
    obtain ⟨c, _, rfl⟩ := List.mem_map.mp hd
    exact Nat.le_trans (show widAll.wid (kdD c) ≤ 3 by simp [kdD, widAll.wid, widAll]) (by decide)
  · refine wid_tup (by rw [List.length_map]; exact Nat.le_trans o.t2 (by decide)) fun d hd => ?_
    obtain ⟨c, _, rfl⟩ := List.mem_map.mp hd
    exact Nat.le_trans (show widAll.wid (tmD c) ≤ 2 by simp [tmD, widAll.wid, widAll]) (by decide)
  · refine wid_tup (by rw [List.length_map]; exact Nat.le_trans o.p2 (by decide)) fun d hd => ?_
    obtain ⟨c, _, rfl⟩ := List.mem_map.mp hd
    exact Nat.zero_le _
  · exact Nat.zero_le _
theorem hall5_g {h : Hall} (o : HallOk h) : G1 4 (.tuple (hall5 h)) := G1.tup (n := 3) fun d hd => g1_hels o d (by
  unfold hall5 at hd
  unfold hallEs
  simp only [List.mem_cons, List.not_mem_nil, or_false] at hd ⊢
  rcases hd with h | h | h | h | h <;> simp [h])
theorem ents_gd2 {rs : List Row} (dk : ∀ e ∈ entF (lastF rs), DeedOk e.2.2) : ∃ m, gd m (.list (entsD rs)) := gd_all_ex (ds := entsD rs) fun d hd => by
  obtain ⟨e, he, rfl⟩ := ents_mem hd
  exact gd_en (dk e he)

end
end Pot

namespace Pot
open PySem PySem.Spec PyProof.Rows L2
section
variable {P : Program} {w : World} {K : PySem.W.Frag} {mg : Str → Option Value} {base : Heap}
/-- things of other kinds -/
def OthV (H : Hp) (x : V) : Prop := x = .non ∨ (∃ i, x = .int i) ∨ (∃ z, x = .str z) ∨ (∃ a us, x = .ref a ∧ H a = some (.lst us)) ∨ ∃ a us, x = .ref a ∧ H a = some (.tup us)
structure KinE (K : PySem.W.Frag) (C : Addr) : Prop where
  k : ∀ T ∈ ["NoneType", "int", "str", "list", "tuple"], PySem.W.notFirst K C (.type T) = true ∧ PySem.W.kitOne K (.type T) (.ref C) = some false
theorem OthV.same {H H' : Hp} {x : V} (h : OthV H x) (s : Same H H') : OthV H' x := by
  rcases h with h | h | h | ⟨a, us, h, e⟩ | ⟨a, us, h, e⟩
  · exact .inl h
  · exact .inr (.inl h)
  · exact .inr (.inr (.inl h))
  · exact .inr (.inr (.inr (.inl ⟨a, us, h, s _ _ e⟩)))
  · exact .inr (.inr (.inr (.inr ⟨a, us, h, s _ _ e⟩)))
theorem OthV.kd {C : Addr} {H : Hp} {x : V} (h : OthV H x) (KN : KinE K C) : ∃ T, KdV K T x H ∧ TyOf K H x (.type T) ∧ PySem.W.notFirst K C (.type T) = true ∧ PySem.W.kitOne K (.type T) (.ref C) = some false := by
  rcases h with rfl | ⟨i, rfl⟩ | ⟨z, rfl⟩ | ⟨a, us, rfl, e⟩ | ⟨a, us, rfl, e⟩
  · exact ⟨"NoneType", rfl, .non, KN.k _ (by decide)⟩
  · exact ⟨"int", rfl, .int i, KN.k _ (by decide)⟩
  · exact ⟨"str", rfl, .str z, KN.k _ (by decide)⟩
  · exact ⟨"list", .inl ⟨rfl, us, SqL.of e⟩, .lst e, KN.k _ (by decide)⟩
  · exact ⟨"tuple", .inr ⟨rfl, us, .inl (.inl e)⟩, .tup e, KN.k _ (by decide)⟩

def spER (K : PySem.W.Frag) (C : Addr) : Sp := fun vs H Q _ => ∃ (b p tl : Addr) (hv v1 v2 v3 v4 : V) (h : Hall) (ts : List Turn), vs = [.ref b, hv, .ref p] ∧ Dp K H hv (hallD h) ∧ HallOk h ∧ BkH K C H h p tl v1 v2 v3 v4 (ts.map rowOf) ∧ Good ts ∧ Num ts ∧ (∀ t ∈ ts, ∀ d, t.d = some d → DeedOk d) ∧ ts.length ≤ 400 ∧ ∀ H', Same H H' → Q (.bl true) H'
abbrev s__law_equal_right : Stmt := topS 21
def n__law_equal_right : List Str := ["_law_box", "_law_hall", "_law_book", "_law_other", "_law_hour", "_law_number", "_law_deed", "_law_rows", "_law_fields", "_law_one", "_law_twin", "_law_row"]
theorem sc__law_equal_right : FnScope n__law_equal_right ["_law_box", "_law_hall", "_law_book"] (defScope s__law_equal_right) := ⟨rfl, rfl, rfl, by decide +kernel, rfl, by decide +kernel, by decide +kernel⟩
set_option maxHeartbeats 1000000 in
theorem ok_er {C CS f : Addr} {fd : FuncData} {k : Nat} (F : Fun K "_law_equal_right" "_law_equal_right" s__law_equal_right f fd) (T : Txt mg) (O : BkC P w K mg base C CS) (eq_Book : Own P w K mg base 2 C "__eq__" (spBQ K C)) (ne_Book : NeK K C) (KN : KinE K C) (nfB : PySem.W.notFirst K C (.ref C) = true) (c__law_same : Cl P w K mg base 6 "_law_same" (spSame K 5)) (c__law_halls : Cl P w K mg base 1 "_law_halls" (spHA K)) (c__law_a_book : Cl P w K mg base 3 "_law_a_book" (spAB K C)) : FnOk P w K mg base CX0 (k + 8) f fd ["_law_box", "_law_hall", "_law_book"] (spER K C) := by
  refine F.ok sc__law_equal_right (fun vs H Q E h => ?_) (fun cdv A outer s H vs Q E hr h => ?_)
  · obtain ⟨b, p, tl, hv, v1, v2, v3, v4, h, ts, rfl, _⟩ := h
    rfl
  · obtain ⟨b, p, tl, hv, v1, v2, v3, v4, h, ts, rfl, dh, okh, M0, gd_, nm, dk, lt, q⟩ := h
    have nd := sc__law_equal_right.nd
    have hu64 := hr.units
    have hu70 : (A.deeper (envOfC (Str.ofString "_law_equal_right") (defScope s__law_equal_right) s.heap.objs.size f cdv)).units + 70 < cLine := by have := hr.un; omega
    have m_Book_entries := O.ent
    have m_Book_enter := O.enter
    have m_Book_strike := O.strike
    have mk_Book := O.make
    let CBook := C
    /- 0 _law_box, 1 _law_hall, 2 _law_book, 3 _law_other, 4 _law_hour, 5 _law_number, 6 _law_deed, 7 _law_rows, 8 _law_fields, 9 _law_one, 10 _law_twin, 11 _law_row -/
    refine ⟨_, (pss_cons (ps_set (i := 3) nd rfl (.inl rfl) (pe_cl c__law_a_book hr (by omega) (by rfl) (pa_cons (pv 1) pa_nil)))
      (pss_cons (ps_set (i := 7) nd rfl (.inl rfl) (pe_callB (kc_sortedM (K := K) hu70) (by rfl) T.sorted (by decide +kernel) (pa_cons (pe_lc (own := [("_law_hour", 4), ("_law_number", 5), ("_law_deed", 6)]) rfl nd (ki_list (K := K) (pe_omt0 m_Book_entries hr (by omega) (pv 2))) (blkOk_by (N := n__law_equal_right) (sc := defScope s__law_equal_right) (by decide +kernel)) (fun _ _ _ _ _ => (kg_tup (K := K) (n := 3) (pgs_cons (pg_name (i := 4) nd rfl (.inl rfl)) (pgs_cons (pg_name (i := 5) nd rfl (.inl rfl)) (pgs_cons (pg_name (i := 6) nd rfl (.inl rfl)) pgs_nil))))) (fun _ _ _ _ _ => pts_nil) (fun _ _ _ _ _ => (pe_tup (pa_cons (pv 5) (pa_cons (pv 4) (pa_cons (pv 6) pa_nil)))))) pa_nil)))
      (pss_cons (ps_for PassesOwn.never rfl (ki_list (K := K) (pv 7)) (kg_tup (K := K) (n := 3) (pgs_cons (pg_name (i := 5) nd rfl (.inl rfl)) (pgs_cons (pg_name (i := 4) nd rfl (.inl rfl)) (pgs_cons (pg_name (i := 6) nd rfl (.inl rfl)) pgs_nil))))
          (pss_one (ps_while PassesOwn.never (pt_cmpR op_lt (pe_omt m_Book_enter hr (by omega) (pv 3) (pa_cons (pv 6) (pa_cons (pv 4) pa_nil))) (pv 5) (nomark _))
              (pss_one (ps_expr (pe_omx m_Book_strike hr (by omega) takes_never (pv 3) (pa_cons (pe_callB (kc_max (K := K)) (by rfl) T.max (by decide +kernel) (pa_cons (pe_lc (own := [("_law_row", 11)]) rfl nd (ki_list (K := K) (pe_omt0 m_Book_entries hr (by omega) (pv 3))) (blkOk_by (N := n__law_equal_right) (sc := defScope s__law_equal_right) (by decide +kernel)) (fun _ _ _ _ _ => (pg_name (i := 11) nd rfl (.inl rfl))) (fun _ _ _ _ _ => pts_nil) (fun _ _ _ _ _ => (pe_ix (kx_tup (K := K)) (pv 11) pe_int (fun _ _ => rfl)))) pa_nil)) pa_nil)))))))
      (pss_cons (ps_set (i := 8) nd rfl (.inl rfl) (pe_tup (pa_cons (ke_fld (K := K) (pv 3)) (pa_cons (ke_fld (K := K) (pv 3)) (pa_cons (ke_fld (K := K) (pv 3)) (pa_cons (ke_fld (K := K) (pv 3)) (pa_cons (ke_fld (K := K) (pv 3)) pa_nil)))))))
      (pss_cons (ps_if ((pw_or (pt_not (pt_cmpR (ko_eqI eq_Book hr (by omega)) (pv 2) (pv 3) (nomark _))) (pw_or (pt_cmpR (ko_neI eq_Book ne_Book hr (by omega) hu64) (pv 2) (pv 3) (nomark _)) (pw_or1 (pt_not (pt_val (pe_cl c__law_same hr (by omega) (by rfl) (pa_cons (pv 8) (pa_cons (pe_slice (kl_tup (K := K)) (pv 1) po_none (po_some pe_int)) pa_nil))))))))).pt
          pss_never
          pss_nil)
      (pss_cons (ps_for PassesOwn.never rfl (ki_list (K := K) (pe_cl c__law_halls hr (by omega) (by rfl) (pa_cons (pv 1) pa_nil))) (pg_name (i := 9) nd rfl (.inl rfl))
          (pss_one (ps_if ((pw_and (pt_cmpR op_eq (pe_callB (kc_len (K := K)) (by rfl) T.len PySem.boot_len (pa_cons (pv 9) pa_nil)) pe_int (nomark _)) (pw_and1 (pt_cmpR (ko_ne (K := K) hu64) (pv 9) (pe_slice (kl_tup (K := K)) (pv 1) po_none (po_some pe_int)) (nomark _))))).pt
              (pss_cons (ps_set (i := 10) nd rfl (.inl rfl) (pe_omk mk_Book hr (by omega) (by rfl) (pa_cons (pe_ix (kx_tup (K := K)) (pv 9) pe_int (fun _ _ => rfl)) (pa_cons (pe_ix (kx_tup (K := K)) (pv 9) pe_int (fun _ _ => rfl)) (pa_cons (pe_ix (kx_tup (K := K)) (pv 9) pe_int (fun _ _ => rfl)) (pa_cons (pe_ix (kx_tup (K := K)) (pv 9) pe_int (fun _ _ => rfl)) (pa_cons (pe_ix (kx_tup (K := K)) (pv 9) pe_int (fun _ _ => rfl)) pa_nil)))))))
              (pss_cons (ps_for PassesOwn.never rfl (ki_list (K := K) (pv 7)) (kg_tup (K := K) (n := 3) (pgs_cons (pg_name (i := 5) nd rfl (.inl rfl)) (pgs_cons (pg_name (i := 4) nd rfl (.inl rfl)) (pgs_cons (pg_name (i := 6) nd rfl (.inl rfl)) pgs_nil))))
                  (pss_one (ps_while PassesOwn.never (pt_cmpR op_lt (pe_omt m_Book_enter hr (by omega) (pv 10) (pa_cons (pv 6) (pa_cons (pv 4) pa_nil))) (pv 5) (nomark _))
                      (pss_one (ps_expr (pe_omx m_Book_strike hr (by omega) takes_never (pv 10) (pa_cons (pe_callB (kc_max (K := K)) (by rfl) T.max (by decide +kernel) (pa_cons (pe_lc (own := [("_law_row", 11)]) rfl nd (ki_list (K := K) (pe_omt0 m_Book_entries hr (by omega) (pv 10))) (blkOk_by (N := n__law_equal_right) (sc := defScope s__law_equal_right) (by decide +kernel)) (fun _ _ _ _ _ => (pg_name (i := 11) nd rfl (.inl rfl))) (fun _ _ _ _ _ => pts_nil) (fun _ _ _ _ _ => (pe_ix (kx_tup (K := K)) (pv 11) pe_int (fun _ _ => rfl)))) pa_nil)) pa_nil)))))))
              (pss_one (ps_if ((pw_or (pt_cmpR (ko_eqI eq_Book hr (by omega)) (pv 10) (pv 2) (nomark _)) (pw_or1 (pt_not (pt_cmpR (ko_neI eq_Book ne_Book hr (by omega) hu64) (pv 10) (pv 2) (nomark _)))))).pt
                  pss_never
                  pss_nil))))
              pss_nil)))
      (pss_cons (ps_expr (pe_omt m_Book_enter hr (by omega) (pv 3) (pa_cons (pe_tup (pa_cons pe_str (pa_cons (pe_ix (kx_tup (K := K)) (pe_ix (kx_tup (K := K)) (pv 1) pe_int (fun _ _ => rfl)) pe_int (fun _ _ => rfl)) pa_nil))) (pa_cons pe_int pa_nil))))
      (pss_one (ps_ret (pe_and (pe_cmpR (ko_neI eq_Book ne_Book hr (by omega) hu64) (pv 3) (pv 2) (nomark _)) (pe_and (pe_cmpR (ko_neB eq_Book ne_Book hr (by omega) hu64) (pv 2) pe_int (nomark _)) (pe_and (pe_not (pe_cmpR (ko_eqBK (K := K) eq_Book hr (by omega)) (pv 2) pe_str (nomark _))) (pe_one (pe_not (pe_cmpR (ko_eqBK (K := K) eq_Book hr (by omega)) (pv 2) (pe_omt0 m_Book_entries hr (by omega) (pv 2)) (nomark _)))))))))))))))), ?_⟩
    have no : ∀ {v1 v2 v3 v4 : V} {sl : Int} {tl : Addr} {m : Str}, (m == ("palette" : Str)) = false → (m == ("kinds" : Str)) = false → (m == ("teams" : Str)) = false → (m == ("pots" : Str)) = false → (m == ("slots" : Str)) = false → (m == ("told" : Str)) = false → (bkF v1 v2 v3 v4 sl tl).lookup m = none := fun a b c d e f => bk_no a b c d e f
    have lrs : (ts.map rowOf).length ≤ 1000 := by rw [List.length_map]; omega
    refine ⟨_, rfl, hv, h, rfl, dh, fun H1 p2 tl2 w1 w2 w3 w4 s1 n1 n2 M2 => ?_⟩
    have M := M0.same s1
    obtain ⟨dxp, hp⟩ := M.bk.ob
    refine ⟨_, rfl, p, dxp, _, rfl, hp, no (by decide +kernel) (by decide +kernel) (by decide +kernel) (by decide +kernel) (by decide +kernel) (by decide +kernel), p, tl, v1, v2, v3, v4, h.sl, _, rfl, M.bk, lrs, fun H2 R us s2 nR hR dR => ?_⟩
    rw [show entsD (ts.map rowOf) = (entS (lastF (ts.map rowOf))).map entD from entsL_eq _] at dR
    have lw : us.length = (entS (lastF (ts.map rowOf))).length := dpAll_map_len dR
    have le : (entS (lastF (ts.map rowOf))).length ≤ 1000 := by rw [entS_len]; exact Nat.le_trans (Nat.le_trans (entF_len _) (lastF_le _)) lrs
    have M := M.same s2
    have M2 := M2.same s2
    have s02 := s1.trans s2
    refine ⟨R, rfl, ⟨_, SqL.of hR⟩, fun X nX => ?_⟩
    refine lc_it (walk_list (xs := us)) (fun j Hx => Same H2 Hx ∧ ∃ vs, Hx X = some (.lst vs) ∧ DpAll K Hx vs ((((entS (lastF (ts.map rowOf))).take j).map swR).map r3D)) ⟨same_upd nX, [], upd_same, .nil⟩ (fun j Hx _ h => SqL.of (h.1 _ _ hR)) ?_ ?_
    · rintro j y Ha Hb hj ⟨sx, vs, hX, dv⟩ ⟨rfl, gy⟩
      obtain ⟨e, ge, de⟩ := dpAll_get dR gy
      obtain ⟨u, us3, rfl, hu1, d3⟩ := dp_tup (dp_same sx de)
      cases d3 with | cons e1 d3 => ?_
      cases d3 with | cons e2 d3 => ?_
      cases d3 with | cons dz d3 => ?_
      cases d3
      cases e1
      cases e2
      rename_i z
      refine ⟨u, _, rfl, hu1, rfl, _, _, rfl, _, _, rfl, _, _, rfl, rfl, rfl, tYes_at ?_⟩
      rw [if_pos rfl]
      refine ⟨_, rfl, _, rfl, _, rfl, (by show 3 ≤ sizeLine; decide), fun Z nZ => ?_⟩
      have dZ : Dp K (upd Hb Z (.tup [.int e.2.1, .int e.1, z])) (.ref Z) (r3D (swR e)) := tup_dp (.cons (.int _) (.cons (.int _) (.cons dz .nil))) nZ
      have sz := same_upd (o := .tup [.int e.2.1, .int e.1, z]) nZ
      generalize upd Hb Z (.tup [.int e.2.1, .int e.1, z]) = Hc at dZ sz ⊢
      have hX2 := sz _ _ hX
      have lv : vs.length = ((((entS (lastF (ts.map rowOf))).take j).map swR).map r3D).length := dpAll_len dv
      rw [List.length_map, List.length_map, List.length_take] at lv
      have sw := sm_wr (H := Hc) (S := [X]) (p := X) (o := .lst (vs ++ [.ref Z])) (by simp)
      refine ⟨vs, hX2, by rw [sizeLine_eq]; omega, same_put (sx.trans sz) nX, _, upd_same, ?_⟩
      have := dpAll_nt (dpAll_app' (dpAll_same sz dv) (.cons dZ .nil)) (by rw [show [r3D (swR e)] = [swR e].map r3D from rfl, ← List.map_append]; exact noL_map (f := r3D) noL_r3 _) sw (lst_nt hX2)
      rw [List.take_add_one, ge, List.map_append, List.map_append]
      exact this
    rintro H3 ⟨s3, vs, hX, dv⟩
    rw [lw, List.take_length] at dv
    refine ⟨X, vs, _, rfl, SqL.of hX, dv, rowsR_cmp _, fun d hd => by obtain ⟨r, _, rfl⟩ := List.mem_map.mp hd; exact r3_depth r, fun zs RL dz nRL => ?_⟩
    rw [rowsR_eq] at dz
    have sR := same_upd (o := .lst zs) nRL
    have hRL : upd H3 RL (.lst zs) RL = some (.lst zs) := upd_same
    have dRL := dpAll_same sR dz
    have M := (M.same s3).same sR
    have M2 := M2.same s3
    have s04 := (s02.trans s3).trans sR
    obtain ⟨_, hl2, _⟩ := M2.bk.li
    have R2 : RL ≠ tl2 := fun z => by rw [← z, nRL] at hl2; cases hl2
    have M2 := M2.same sR
    have hl2 := sR _ _ hl2
    generalize upd H3 RL (.lst zs) = H4 at hRL dRL M M2 s04 hl2 ⊢
    clear s3 s2 s1 hX dv nX dR hR nR lw le sR nRL dz s02 hp
    have tt2 : tl ≠ tl2 := fun z => by
      obtain ⟨_, hl, _⟩ := M.bk.li
      have h0 := M0.bk.li
      obtain ⟨_, h0, _⟩ := h0
      rw [z, n2] at h0; cases h0
    have n0 : ∀ r ∈ rowsR (ts.map rowOf), 0 ≤ r.1 ∧ r.1 ≤ 450 := fun r hr => by
      obtain ⟨t, ht, e1, _⟩ := ent_turn (rowsR_mem hr)
      have := num_lt gd_ nm t ht
      have e1 : t.n = r.1 := e1
      omega
    have dk3 : ∀ r ∈ rowsR (ts.map rowOf), DeedOk r.2.2 := fun r hr => ent_ok dk (enR r) (rowsR_mem hr)
    have ge := ents_gd dk
    simp only [gName, List.set, L2.start]
    show rbTS K C CS 3 _ _ _
    refine rb_ok (fun _ _ _ _ => rfl) hRL dRL R2 M2.bk (rowsR_up _) n0 dk3 fun H5 a4 a5 a6 a11 rs2 c s5 D c9 => ?_
    have nt2 : NT [tl2] H4 := lst_nt hl2
    have pt2 : p ≠ tl2 := fun z => by
      obtain ⟨_, hp⟩ := M.bk.ob
      rw [z, hl2] at hp; cases hp
    have M := M.told okh s5 nt2 (M.bk.sm s5 (by simp [pt2]) (by simp [tt2]) nt2)
    have M2 := M2.told okh s5 nt2 D.bk
    have hRL := sm1_at s5 R2 hRL
    have dRL := dpAll_nt dRL (noL_map (f := r3D) noL_r3 _) s5 nt2
    have s05 : Same H H5 := fun a o e => by
      have a2 : a ≠ tl2 := fun z => by rw [z, n2] at e; cases e
      exact sm1_at s5 a2 (s04 _ _ e)
    have e12 : entsD rs2 = entsD (ts.map rowOf) := entsD_perm (by rw [D.en]; exact rowsR_perm _)
    have ge2 : ∃ m, gd m (.list (entsD rs2)) := by rw [e12]; exact ge
    have lr2 : rs2.length ≤ 950 := by have := D.ln; omega
    clear s5 s04 hl2 nt2
    obtain ⟨dxp, hp⟩ := M.bk.ob
    obtain ⟨dx2, hp2⟩ := M2.bk.ob
    have N := O.k
    refine ⟨_, rfl, p2, C, dx2, _, _, rfl, hp2, N.cl, N.a0, bf_palette _ _ _ _ _ _, _, rfl, p2, C, dx2, _, _, rfl, hp2, N.cl, N.a1, bf_kinds _ _ _ _ _ _, _, rfl, p2, C, dx2, _, _, rfl, hp2, N.cl, N.a2, bf_teams _ _ _ _ _ _, _, rfl, p2, C, dx2, _, _, rfl, hp2, N.cl, N.a3, bf_pots _ _ _ _ _ _, _, rfl, p2, C, dx2, _, _, rfl, hp2, N.cl, N.a4, bf_slots _ _ _ _ _ _, (by show 5 ≤ sizeLine; decide), fun Fi nFi => ?_⟩
    have dF := tup_dp (K := K) (H := H5) (.cons M2.d1 (.cons M2.d2 (.cons M2.d3 (.cons M2.d4 (.cons (.int h.sl) .nil))))) nFi
    have s6 := same_upd (o := .tup [w1, w2, w3, w4, .int h.sl]) nFi
    generalize upd H5 Fi (.tup [w1, w2, w3, w4, .int h.sl]) = H6 at dF s6 ⊢
    have M := M.same s6
    have M2 := M2.same s6
    have hp := s6 _ _ hp
    have hp2 := s6 _ _ hp2
    have s06 := s05.trans s6
    have hRL := s6 _ _ hRL
    have dRL := dpAll_same s6 dRL
    have X1 := M.x okh ge lrs
    have X2 := M2.x okh ge2 (by omega)
    have eT := eqB_same okh e12.symm ge2
    simp only [gName, List.set]
    refine ⟨_, rfl, _, rfl, p, dxp, _, p2, C, dx2, _, rfl, rfl, hp, hp2, nfB, p, tl, xH h, _, _, rfl, X1, .inl ⟨p2, tl2, xH h, rs2, rfl, X2, fun H7 s7 => ?_⟩⟩
    rw [eT]
    refine ⟨true, rfl, true, rfl, iteF ?_⟩
    have X1 := X1.same s7
    have X2 := X2.same s7
    refine ⟨_, rfl, _, rfl, p, dxp, _, p2, C, dx2, _, rfl, rfl, s7 _ _ hp, s7 _ _ hp2, nfB, p, tl, xH h, _, _, rfl, X1, .inl ⟨p2, tl2, xH h, rs2, rfl, X2, fun H8 s8 => ?_⟩⟩
    rw [eT]
    refine ⟨true, rfl, _, rfl, _, rfl, iteF ?_⟩
    have s68 := s7.trans s8
    have s08 := s06.trans s68
    have dh8 : Dp K H8 hv (.tuple (hallEs h)) := dp_same s08 dh
    refine ⟨_, rfl, _, rfl, _, rfl, ?_⟩
    refine sl_dp (K := K) (lo := none) (hi := some 5) dh8 fun H9 p9 s9 d9 => ?_
    obtain ⟨m5, hg5⟩ := (hall5_g okh).2.1
    refine ⟨.ref Fi, .ref p9, .tuple (hall5 h), m5, rfl, dp_same (s68.trans s9) dF, d9, Nat.lt_of_le_of_lt (hall5_g okh).2.2 (by decide), hall5_wid okh, hg5, fun Ha sa => ⟨true, rfl, iteF ?_⟩⟩
    have s6a := (s68.trans s9).trans sa
    have M := M.same s6a
    have M2 := M2.same s6a
    have hRL := s6a _ _ hRL
    have dRL := dpAll_same s6a dRL
    have s0a := s06.trans s6a
    clear X1 X2 hp hp2 s7 s8 s68 s08 dh8 d9 s9 sa s6a s06 s6 dF hg5 nFi s05
    simp only [tNext, List.set]
    refine seq_mid (fun σ Hx => ∃ a4 a5 a6 a9 a10 a11, σ = [some (.ref b), some hv, some (.ref p), some (.ref p2), a4, a5, a6, some (.ref RL), some (.ref Fi), a9, a10, a11] ∧ Same Ha Hx) (fun N hN => ?_) (fun σ Hx g => ?_)
    · refine ⟨_, rfl, hv, h, rfl, dp_same s0a dh, okh, fun Hb L us ds sb hL dL gL lL => ⟨L, rfl, ⟨_, SqL.of hL⟩, ?_⟩⟩
      have M := M.same sb
      have hRL := sb _ _ hRL
      have dRL := dpAll_same sb dRL
      have s0b := s0a.trans sb
      refine for_it (walk_list (xs := us)) (fun i σ Hx => ∃ a4 a5 a6 a9 a10 a11, σ = [some (.ref b), some hv, some (.ref p), some (.ref p2), a4, a5, a6, some (.ref RL), some (.ref Fi), a9, a10, a11] ∧ Same Hb Hx) ⟨_, _, _, _, _, _, rfl, Same.refl _⟩ (fun i σ Hx _ hx => by
        obtain ⟨_, _, _, _, _, _, _, sx⟩ := hx
        exact SqL.of (sx _ _ hL)) ?_ ?_
      · rintro i y σ Hc Hd hi ⟨a4, a5, a6, a9, a10, a11, rfl, sx⟩ ⟨rfl, gy⟩
        obtain ⟨d, gd9, dy⟩ := dpAll_get (by rw [List.map_id]; exact dL : DpAll K Hb us (ds.map id)) gy
        obtain ⟨e, ed, ge9, fo⟩ := gL d (List.mem_of_getElem? gd9)
        subst ed
        have dy : Dp K Hb y (.tuple e) := dy
        obtain ⟨T_, xs, rfl, hT, dxs⟩ := dp_tup (dp_same sx dy)
        have lxe : xs.length = e.length := dpAll_len dxs
        simp only [gName, List.set]
        refine ⟨_, rfl, _, _, rfl, .inr ⟨_, hT, rfl⟩, rfl, _, rfl, ?_⟩
        by_cases l5 : e.length = 5
        · rw [show decide (V.int (xs.length : Nat) = V.int 5) = true by rw [lxe, l5]; rfl]
          refine iteT ?_
          obtain ⟨d1, d2, d3, d4, i9, ee⟩ := fo.resolve_left (fun z => z l5)
          subst ee
          have s0d := s0b.trans sx
          refine ⟨_, rfl, _, rfl, _, rfl, ?_⟩
          refine sl_dp (K := K) (lo := none) (hi := some 5) (dp_same s0d dh : Dp K Hd hv (.tuple (hallEs h))) fun He pe se de => ?_
          have gt9 : G1 9 (.tuple [d1, d2, d3, d4, .int i9]) := .tup ge9
          refine ⟨_, .tuple (hall5 h), .tup (same_tup se hT) (dpAll_same se dxs), de, gt9.sh (by decide), (hall5_g okh).sh (by decide), _, rfl, ?_⟩
          cases ev : PyData.eqv (.tuple [d1, d2, d3, d4, .int i9]) (.tuple (hall5 h)) with
          | true => exact iteF ⟨_, _, _, _, _, _, rfl, sx.trans se⟩
          | false =>
            refine iteT ?_
            have hT := same_tup se hT
            have dxs := dpAll_same se dxs
            cases dxs with | cons f1 dxs => ?_
            cases dxs with | cons f2 dxs => ?_
            cases dxs with | cons f3 dxs => ?_
            cases dxs with | cons f4 dxs => ?_
            cases dxs with | cons f5 dxs => ?_
            cases dxs
            cases f5
            rename_i u1 u2 u3 u4 _
            refine ⟨_, rfl, T_, _, 0, _, rfl, rfl, hT, rfl, _, rfl, T_, _, 1, _, rfl, rfl, hT, rfl, _, rfl, T_, _, 2, _, rfl, rfl, hT, rfl, _, rfl, T_, _, 3, _, rfl, rfl, hT, rfl, _, rfl, T_, _, 4, _, rfl, rfl, hT, rfl, ?_⟩
            intro p3 dq nq2 ndq neq
            refine ⟨He, p3, dq, _, _, _, _, i9, rfl, ins_new nq2 ndq neq, nq2, upd_same, fun Hf tl3 s3 nt3 ne3 M3 => ⟨rfl, ?_⟩⟩
            have s3d := se.trans s3
            have s3b := sx.trans s3d
            have M := M.same s3b
            have hRL := s3b _ _ hRL
            have dRL := dpAll_same s3b dRL
            have R3 : RL ≠ tl3 := fun z => by
              have := (sx.trans se) _ _ ‹Hb RL = _›
              rw [z, nt3] at this; cases this
            have Mh := M0.same (s0d.trans se)
            obtain ⟨_, hph⟩ := Mh.bk.ob
            obtain ⟨_, hlh, _⟩ := Mh.bk.li
            have pt3 : p ≠ tl3 := fun z => by rw [z, nt3] at hph; cases hph
            have tt3 : tl ≠ tl3 := fun z => by rw [z, nt3] at hlh; cases hlh
            obtain ⟨_, hl3, _⟩ := M3.li
            have ntl3 : NT [tl3] Hf := lst_nt hl3
            have f1 := dp_same s3 f1
            have f2 := dp_same s3 f2
            have f3 := dp_same s3 f3
            have f4 := dp_same s3 f4
            simp only [gName, List.set]
            show rbTS K C CS 10 _ _ _
            refine rb_ok (fun _ _ _ _ => rfl) hRL dRL R3 M3 (rowsR_up _) n0 dk3 fun Hg b4 b5 b6 b11 rs3 c3 s4 D3 c39 => ?_
            have M := M.told okh s4 ntl3 (M.bk.sm s4 (by simp [pt3]) (by simp [tt3]) ntl3)
            have g1 := ge9 d1 (by simp)
            have g2 := ge9 d2 (by simp)
            have g3 := ge9 d3 (by simp)
            have g4 := ge9 d4 (by simp)
            have f1 := dp_nt f1 g1.1 s4 ntl3
            have f2 := dp_nt f2 g2.1 s4 ntl3
            have f3 := dp_nt f3 g3.1 s4 ntl3
            have f4 := dp_nt f4 g4.1 s4 ntl3
            have e13 : entsD rs3 = entsD (ts.map rowOf) := entsD_perm (by rw [D3.en]; exact rowsR_perm _)
            have X1 := M.x okh ge lrs
            have X3 : BkX K C Hg p3 ⟨d1, d2, d3, d4, i9⟩ tl3 rs3 := ⟨⟨u1, u2, u3, u4, D3.bk, f1, f2, f3, f4⟩, g1.sh (by decide), g2.sh (by decide), g3.sh (by decide), g4.sh (by decide), by rw [e13]; exact X1.se, by have := D3.ln; omega⟩
            have eF := eqB_other (rs := rs3) (ss := ts.map rowOf) ev
            obtain ⟨dx3, hp3⟩ := D3.bk.ob
            obtain ⟨dxg, hpg⟩ := M.bk.ob
            have sbg : Same Hb Hg := fun a o e => by
              have h1 := (sx.trans se) _ _ e
              exact sm1_at s4 (fun z => by rw [z, nt3] at h1; cases h1) (s3 _ _ h1)
            refine ⟨_, rfl, _, rfl, p3, dx3, _, p, C, dxg, _, rfl, rfl, hp3, hpg, nfB, p3, tl3, ⟨d1, d2, d3, d4, i9⟩, _, _, rfl, X3, .inl ⟨p, tl, xH h, _, rfl, X1, fun Hh s5 => ?_⟩⟩
            rw [eF]
            refine ⟨false, rfl, false, rfl, iteF ?_⟩
            refine ⟨_, rfl, _, rfl, p3, dx3, _, p, C, dxg, _, rfl, rfl, s5 _ _ hp3, s5 _ _ hpg, nfB, p3, tl3, ⟨d1, d2, d3, d4, i9⟩, _, _, rfl, X3.same s5, .inl ⟨p, tl, xH h, _, rfl, X1.same s5, fun Hi s6 => ?_⟩⟩
            rw [eF]
            exact ⟨false, rfl, _, rfl, _, rfl, iteF ⟨_, _, _, _, _, _, rfl, sbg.trans (s5.trans s6)⟩⟩
        · rw [show decide (V.int (xs.length : Nat) = V.int 5) = false from decide_eq_false fun z => l5 (by rw [← lxe]; injection z with z; exact Int.ofNat.inj z)]
          exact iteF (iteF ⟨_, _, _, _, _, _, rfl, sx⟩)
      · rintro σ Hx ⟨a4, a5, a6, a9, a10, a11, rfl, sx⟩
        exact hN _ _ ⟨_, _, _, _, _, _, rfl, sb.trans sx⟩
    · obtain ⟨a4, a5, a6, a9, a10, a11, rfl, sx⟩ := g
      have M := M.same sx
      have M2 := M2.same sx
      have s0x := s0a.trans sx
      obtain ⟨A_, xs, rfl, hA, dA⟩ := dp_tup (dp_same s0x dh)
      cases dA with | cons d0 dA => ?_
      cases dA with | cons d1 dA => ?_
      cases dA with | cons d2 dA => ?_
      cases dA with | cons d3 dA => ?_
      obtain ⟨Pa, xp, rfl, hP, dP⟩ := dp_tup d3
      obtain ⟨z0, zr, ez⟩ : ∃ z r, h.ps = z :: r := by
        cases e : h.ps with
        | nil => exact absurd okh.p1 (by rw [e]; decide)
        | cons c r => exact ⟨c, r, rfl⟩
      rw [ez] at dP
      cases dP with | cons dz0 dPr => ?_
      cases dz0
      have nz : Nm z0 := okh.po z0 (by rw [ez]; exact List.mem_cons_self)
      have at3 : ∀ {x y z u : V} {xs : List V}, atI (x :: y :: z :: u :: xs) 3 = some u := fun {x y z u xs} => atI_nat (j := 3) rfl
      have at0 : ∀ {x : V} {xs : List V}, atI (x :: xs) 0 = some x := fun {x xs} => atI_nat (j := 0) rfl
      obtain ⟨dx2, hp2⟩ := M2.bk.ob
      refine ⟨_, rfl, p2, dx2, _, rfl, hp2, no (by decide +kernel) (by decide +kernel) (by decide +kernel) (by decide +kernel) (by decide +kernel) (by decide +kernel), _, rfl, A_, _, 3, _, rfl, rfl, hA, at3, Pa, _, 0, _, rfl, rfl, hP, at0, (by show 2 ≤ sizeLine; decide), fun Z nZ => ?_⟩
      have dZ : Dp K (upd Hx Z (.tup [.str "empty", .str z0])) (.ref Z) (dD (.empt z0)) := tup_dp (.cons (.str _) (.cons (.str _) .nil)) nZ
      have sz := same_upd (o := .tup [.str "empty", .str z0]) nZ
      generalize upd Hx Z (.tup [.str "empty", .str z0]) = Hy at dZ sz ⊢
      have M := M.same sz
      have M2 := M2.same sz
      have s0y := s0x.trans sz
      have nn2 : ∀ r ∈ rs2, 0 ≤ r.1 := D.nn
      refine ⟨p2, tl2, w1, w2, w3, w4, .ref Z, h.sl, 7, rs2, .empt z0, rfl, M2.bk, dZ, by omega, nn2, fun Hz n9 nx9 s9 M9 => ?_⟩
      obtain ⟨_, hly, _⟩ := M2.bk.li
      have nty : NT [tl2] Hy := lst_nt hly
      have pt9 : p ≠ tl2 := fun z => by
        obtain ⟨_, hp⟩ := M.bk.ob
        rw [z, hly] at hp; cases hp
      have M := M.told okh s9 nty (M.bk.sm s9 (by simp [pt9]) (by simp [tt2]) nty)
      have M2 := M2.told okh s9 nty M9
      have s0z : Same H Hz := fun a o e => sm1_at s9 (fun z => by rw [z, n2] at e; cases e) (s0y _ _ e)
      have eD : ∀ rs : List Row, (entsD rs).length = (entF (lastF rs)).length := fun rs => by rw [show entsD rs = (entS (lastF rs)).map entD from entsL_eq _, List.length_map, entS_len]
      have elen : (entsD (rs2 ++ [(n9, some (7, Deed.empt z0))])).length ≠ (entsD (ts.map rowOf)).length := by
        rw [← e12, eD, eD, reb_enter nx9, List.length_append]
        show (entF (lastF rs2)).length + 1 ≠ _
        omega
      have ge9_ : ∃ m, gd m (.list (entsD (rs2 ++ [(n9, some (7, Deed.empt z0))]))) := ents_gd2 fun e he => by
        rw [reb_enter nx9, D.en] at he
        rcases List.mem_append.mp he with he | he
        · obtain ⟨r, hr, rfl⟩ := List.mem_map.mp he
          exact dk3 r hr
        · rw [List.mem_singleton.mp he]; exact nz
      have X2 := M2.x okh ge9_ (by rw [List.length_append]; show rs2.length + 1 ≤ 1000; omega)
      have X1 := M.x okh ge lrs
      have eF := eqB_len (x := xH h) (y := xH h) elen
      obtain ⟨dx2, hp2⟩ := M2.bk.ob
      obtain ⟨dxp, hp⟩ := M.bk.ob
      refine ⟨_, rfl, _, rfl, p2, dx2, _, p, C, dxp, _, rfl, rfl, hp2, hp, nfB, p2, tl2, xH h, _, _, rfl, X2, .inl ⟨p, tl, xH h, _, rfl, X1, fun Ha sa => ?_⟩⟩
      rw [eF]
      refine ⟨false, rfl, _, rfl, _, rfl, iteT ?_⟩
      have X1 := X1.same sa
      have hp := sa _ _ hp
      obtain ⟨T1, kd1, ty1, nf1, kt1⟩ := OthV.kd (.inr (.inl ⟨7, rfl⟩) : OthV Ha (.int 7)) KN
      refine ⟨_, rfl, p, dxp, _, T1, rfl, hp, kd1, nf1, p, tl, xH h, _, _, rfl, X1, .inr ⟨_, ty1, kt1, false, rfl, _, rfl, _, rfl, iteT ?_⟩⟩
      obtain ⟨T2, kd2, ty2, nf2, kt2⟩ := OthV.kd (.inr (.inr (.inl ⟨"book", rfl⟩)) : OthV Ha (.str "book")) KN
      refine ⟨_, rfl, p, dxp, _, T2, rfl, hp, kd2, nf2, p, tl, xH h, _, _, rfl, X1, .inr ⟨_, ty2, kt2, _, rfl, _, rfl, _, rfl, iteT ?_⟩⟩
      refine ⟨_, rfl, _, rfl, p, dxp, _, rfl, hp, no (by decide +kernel) (by decide +kernel) (by decide +kernel) (by decide +kernel) (by decide +kernel) (by decide +kernel), p, tl, v1, v2, v3, v4, h.sl, _, rfl, M.bk.same sa, lrs, fun Hb R us sb nR hR dR => ?_⟩
      obtain ⟨T3, kd3, ty3, nf3, kt3⟩ := OthV.kd (.inr (.inr (.inr (.inl ⟨R, us, rfl, hR⟩))) : OthV Hb (.ref R)) KN
      exact ⟨p, dxp, _, T3, rfl, sb _ _ hp, kd3, nf3, p, tl, xH h, _, _, rfl, X1.same sb, .inr ⟨_, ty3, kt3, _, rfl, _, rfl, q _ (s0z.trans (sa.trans sb))⟩⟩

end
end Pot

namespace Pot
open PySem PySem.Spec PyProof.Rows L2
section
variable {P : Program} {w : World} {K : PySem.W.Frag} {mg : Str → Option Value} {base : Heap}
theorem Step.form {rs : List Row} {ts : List Turn} {rs' : List Row} {ts' : List Turn} (s : Step rs ts rs' ts') : rs' = rs.dropLast ∨ ∃ r, rs' = rs ++ [r] := by
  cases s with
  | pop => exact .inl rfl
  | add t c ok h0 h9 => exact .inr ⟨_, rfl⟩
theorem StL.step {H : Hp} {S : List Addr} {us : List V} {rs rs' : List Row} {R : Addr} {zs : List V} (h : StL K H S us rs) (lu : us.length = rs.length + 1) (c : rs' = rs.dropLast ∨ ∃ r, rs' = rs ++ [r]) (nR : R ∉ S) (hR : H R = some (.lst zs)) (dR : DpAll K H zs (entsD rs')) :
    StL K H S (us.take rs'.length ++ [V.ref R]) rs' ∧ (us.take rs'.length ++ [V.ref R]).length = rs'.length + 1 := by
  have l : rs'.length ≤ us.length := by
    rcases c with rfl | ⟨r, rfl⟩
    · rw [List.length_dropLast]; omega
    · rw [List.length_append]; show rs.length + 1 ≤ _; omega
  have lt : (us.take rs'.length).length = rs'.length := by rw [List.length_take]; omega
  refine ⟨fun i hi => ?_, by rw [List.length_append, lt]; rfl⟩
  by_cases e : i = rs'.length
  · subst e
    refine ⟨R, zs, by rw [List.getElem?_append_right (by omega), lt, Nat.sub_self]; rfl, nR, hR, ?_⟩
    rw [List.take_length]
    exact dR
  · have li : i < rs'.length := by omega
    have et : rs'.take i = rs.take i := by
      rcases c with rfl | ⟨r, rfl⟩
      · rw [List.length_dropLast] at li
        rw [List.dropLast_eq_take, List.take_take, Nat.min_eq_left (by omega)]
      · rw [List.length_append] at li
        have li : i < rs.length + 1 := li
        rw [List.take_append_of_le_length (by omega)]
    have ir : i ≤ rs.length := by
      rcases c with rfl | ⟨r, rfl⟩
      · rw [List.length_dropLast] at li; omega
      · rw [List.length_append] at li
        have li : i < rs.length + 1 := li
        omega
    obtain ⟨L, ys, g1, g2, g3, g4⟩ := h i ir
    refine ⟨L, ys, by rw [List.getElem?_append_left (by omega), List.getElem?_take_of_lt li]; exact g1, g2, g3, ?_⟩
    rw [et]
    exact g4
theorem StL.grow {H : Hp} {S : List Addr} {us : List V} {rs : List Row} {X : Addr} (h : StL K H S us rs) (n : H X = none) : StL K H (X :: S) us rs := fun i hi => by
  obtain ⟨L, ys, g1, g2, g3, g4⟩ := h i hi
  exact ⟨L, ys, g1, fun z => by
    rcases List.mem_cons.mp z with z | z
    · rw [z, n] at g3; cases g3
    · exact g2 z, g3, g4⟩
theorem StL.less {H : Hp} {S T : List Addr} {us : List V} {rs : List Row} (h : StL K H S us rs) (sub : ∀ x ∈ T, x ∈ S) : StL K H T us rs := fun i hi => by
  obtain ⟨L, ys, g1, g2, g3, g4⟩ := h i hi
  exact ⟨L, ys, g1, fun z => g2 (sub _ z), g3, g4⟩
theorem StL.same {H H' : Hp} {S : List Addr} {us : List V} {rs : List Row} (h : StL K H S us rs) (s : Same H H') : StL K H' S us rs := h.sm (T := []) (sm_of s) (fun x hx => by cases hx) (fun x hx => by cases hx)
theorem same_sm {H0 H H' : Hp} {S : List Addr} (f : Same H0 H) (s : Sm S H H') (n : ∀ x ∈ S, H0 x = none) : Same H0 H' := fun a o e => sm_at s (fun z => by rw [n a z] at e; cases e) (f a o e)
theorem Os.take {C : Addr} {H Hx H' : Hp} {b : Addr} {hv : V} {h : Hall} {p tl : Addr} {v1 v2 v3 v4 : V} {sl : Int} {TL : Addr} {ts : List Turn} {m m' : Nat} (D : Os K C H Hx b hv h p tl v1 v2 v3 v4 sl TL ts m) (s : Sm [b] Hx H') (B : Bp H' b m') (bt : b ≠ tl) (bT : b ≠ TL) : Os K C H H' b hv h p tl v1 v2 v3 v4 sl TL ts m' := by
  obtain ⟨us, h1, h2⟩ := D.t
  have nb : NT [b] Hx := bp_nt D.B
  have pb : p ≠ b := fun z => by
    obtain ⟨_, _, _, hb, _⟩ := D.B
    obtain ⟨_, hp⟩ := D.bk.ob
    rw [z, hb] at hp; cases hp
  exact D.next (sm_mono (by simp) s) B (D.bk.sm s (by simp [pb]) (by simp [bt.symm]) nb) (sm1_at s bT.symm h1) (dpAll_nt h2 (noL_map (f := tuD) noL_tu _) s nb) D.gd D.nm D.dk
theorem BkAt.ls {C : Addr} {H H' : Hp} {p tl : Addr} {v1 v2 v3 v4 : V} {sl : Int} {rs : List Row} {U : List Addr} (M : BkAt K C H p v1 v2 v3 v4 sl tl rs) (s : Sm U H H') (l : LS U H) (n : tl ∉ U) : BkAt K C H' p v1 v2 v3 v4 sl tl rs :=
  M.sm s (fun z => by
    obtain ⟨us, h1⟩ := l _ z
    obtain ⟨dx, h2⟩ := M.ob
    rw [h1] at h2; cases h2) n l.nt
theorem BkAt.ne {C : Addr} {H : Hp} {p tl x : Addr} {v1 v2 v3 v4 : V} {sl : Int} {rs : List Row} (M : BkAt K C H p v1 v2 v3 v4 sl tl rs) (n : H x = none) : tl ≠ x := fun z => by
  obtain ⟨_, h, _⟩ := M.li
  rw [z, n] at h; cases h
theorem BkAt.ls1 {C : Addr} {H : Hp} {p tl : Addr} {v1 v2 v3 v4 : V} {sl : Int} {rs : List Row} (M : BkAt K C H p v1 v2 v3 v4 sl tl rs) : ∃ us, H tl = some (.lst us) := by
  obtain ⟨us, h, _⟩ := M.li
  exact ⟨us, h⟩
theorem Bp.ls1 {H : Hp} {b : Addr} {n : Nat} (B : Bp H b n) : ∃ us, H b = some (.lst us) := by
  obtain ⟨_, _, _, h, _⟩ := B
  exact ⟨_, h⟩
theorem lst_ne {H : Hp} {a x : Addr} {us : List V} (h : H a = some (.lst us)) (n : H x = none) : a ≠ x := fun z => by rw [z, n] at h; cases h
theorem ents_nil : entsD [] = [] := List.eq_nil_of_length_eq_zero (Nat.le_zero.mp (ents_len []))
abbrev s_law : Stmt := topS 22
def n_law : List Str := ["_law_script", "_law_cells", "_law_k", "_law_box", "_law_hall", "_law_book", "_law_stands", "_law_turns", "_law_turn", "_law_many", "_law_other", "_law_twin", "_law_spare", "_law_first", "_law_plain"]
theorem sc_law : FnScope n_law ["_law_script"] (defScope s_law) := ⟨rfl, rfl, rfl, by decide +kernel, rfl, by decide +kernel, by decide +kernel⟩
def spLaw (K : PySem.W.Frag) : Sp := fun vs H Q _ => ∃ (a : Addr) (ns : List Int), vs = [.ref a] ∧ SqL K H a (ns.map V.int) ∧ ns.length ≤ 63 ∧ ∀ H', Q (.bl true) H'
theorem ok_law {C CS f : Addr} {fd : FuncData} {k : Nat} (F : Fun K "law" "law" s_law f fd) (T : Txt mg) (O : BkC P w K mg base C CS) (len_Book : Own P w K mg base 2 C "__len__" (spBL K C)) (eq_Book : Own P w K mg base 2 C "__eq__" (spBQ K C)) (ne_Book : NeK K C) (nfB : PySem.W.notFirst K C (.ref C) = true) (mk_Book1 : OMak P w K mg base 1 "Book" C (spBI K C) [.int 12]) (c__law_folded : Cl P w K mg base 1 "_law_folded" (spFolded K)) (c__law_draws : Cl P w K mg base 1 "_law_draws" (spDraws K)) (c__law_take : Cl P w K mg base 1 "_law_take" spTake) (c__law_a_hall : Cl P w K mg base 4 "_law_a_hall" (spHall K)) (c__law_a_book : Cl P w K mg base 3 "_law_a_book" (spAB K C)) (c__law_told_once : Cl P w K mg base 7 "_law_told_once" (spTO K C)) (c__law_apart : Cl P w K mg base 8 "_law_apart" (spAP K C)) (c__law_undone : Cl P w K mg base 6 "_law_undone" (spUD K C)) (c__law_own_row_right : Cl P w K mg base 8 "_law_own_row_right" (spOR K C)) (c__law_equal_right : Cl P w K mg base 8 "_law_equal_right" (spER K C)) : FnOk P w K mg base CX0 (k + 9) f fd ["_law_script"] (spLaw K) := by
  refine F.ok sc_law (fun vs H Q E h => ?_) (fun cdv A outer s H vs Q E hr h => ?_)
  · obtain ⟨a, ns, rfl, _⟩ := h
    rfl
  · obtain ⟨a, ns, rfl, hS, h63, q⟩ := h
    have nd := sc_law.nd
    have hu := hu_of hr
    have hu64 := hr.units
    have m_Book_entries := O.ent
    have m_Book_told_times := O.times
    have m_Book_as_told := O.as_told
    have m_Book_twin := O.twin
    have m_Book_undo := O.undo
    have mk_Book := mk_Book1
    let CBook := C
    /- 0 _law_script, 1 _law_cells, 2 _law_k, 3 _law_box, 4 _law_hall, 5 _law_book, 6 _law_stands, 7 _law_turns, 8 _law_turn, 9 _law_many, 10 _law_other, 11 _law_twin, 12 _law_spare, 13 _law_first, 14 _law_plain -/
    refine ⟨_, (pss_cons (ps_set (i := 1) nd rfl (.inl rfl) (pe_cl c__law_folded hr (by omega) (by rfl) (pa_cons (pv 0) (pa_cons pe_int pa_nil))))
      (pss_cons (ps_for PassesOwn.never rfl (pi_range1 (by rfl) T.range (pa_cons (pe_callB (kc_len (K := K)) (by rfl) T.len PySem.boot_len (pa_cons (pv 1) pa_nil)) pa_nil)) (pg_name (i := 2) nd rfl (.inl rfl))
          (pss_cons (ps_set (i := 3) nd rfl (.inl rfl) (pe_cl c__law_draws hr (by omega) (by rfl) (pa_cons (pv 1) (pa_cons (pv 2) pa_nil))))
          (pss_cons (ps_set (i := 4) nd rfl (.inl rfl) (pe_cl c__law_a_hall hr (by omega) (by rfl) (pa_cons (pv 3) (pa_cons pe_bl pa_nil))))
          (pss_cons (ps_par3 (i := 5) (j := 6) (l := 7) rfl nd rfl rfl rfl (by decide) (by decide) (by decide) rfl rfl rfl (pa_cons (pe_cl c__law_a_book hr (by omega) (by rfl) (pa_cons (pv 4) pa_nil)) (pa_cons (pe_lst (pa_cons (pe_lst pa_nil) pa_nil)) (pa_cons (pe_lst pa_nil) pa_nil))) rfl)
          (pss_cons (ps_for PassesOwn.never rfl (pi_range1 (by rfl) T.range (pa_cons (pe_op op_add pe_int (pe_cl c__law_take hr (by omega) (by rfl) (pa_cons (pv 3) (pa_cons pe_int pa_nil)))) pa_nil)) (pg_name (i := 8) nd rfl (.inl rfl))
              (pss_cons (ps_expr (pe_cl c__law_told_once hr (by omega) (by rfl) (pa_cons (pv 3) (pa_cons (pv 4) (pa_cons (pv 5) (pa_cons (pv 7) pa_nil))))))
              (pss_one (ps_set (i := 6) nd rfl (.inl rfl) (pe_op op_cat (pe_slice (kl_list (K := K)) (pv 6) po_none (po_some (pe_omt0 m_Book_told_times hr (by omega) (pv 5)))) (pe_lst (pa_cons (pe_omt0 m_Book_entries hr (by omega) (pv 5)) pa_nil)))))))
          (pss_cons (ps_set (i := 9) nd rfl (.inl rfl) (pe_cl c__law_take hr (by omega) (by rfl) (pa_cons (pv 3) (pa_cons (pe_op op_add (pe_omt0 m_Book_told_times hr (by omega) (pv 5)) pe_int) pa_nil))))
          (pss_cons (ps_par (i := 10) (j := 11) rfl nd rfl rfl (by decide) rfl rfl (pa_cons (pe_omt m_Book_as_told hr (by omega) (pv 5) (pa_cons (pv 9) pa_nil)) (pa_cons (pe_omt0 m_Book_twin hr (by omega) (pv 5)) pa_nil)) rfl)
          (pss_cons (ps_par (i := 12) (j := 13) rfl nd rfl rfl (by decide) rfl rfl (pa_cons (pe_omt0 m_Book_twin hr (by omega) (pv 5)) (pa_cons (pe_omt m_Book_as_told hr (by omega) (pv 5) (pa_cons (pv 9) pa_nil)) pa_nil)) rfl)
          (pss_cons (ps_if ((pw_or (pt_cmpR op_ne (pe_omt0 m_Book_told_times hr (by omega) (pv 10)) (pv 9) (nomark _)) (pw_or (pt_cmpR (ko_ne (K := K) hu64) (pe_omt0 m_Book_entries hr (by omega) (pv 10)) (pe_ix (kx_list (K := K)) (pv 6) (pv 9) (fun _ _ => rfl)) (nomark _)) (pw_or (pt_cmpR (ko_neI eq_Book ne_Book hr (by omega) hu64) (pv 11) (pv 5) (nomark _)) (pw_or1 (pt_not (pt_cmpR (ko_eqI eq_Book hr (by omega)) (pv 11) (pv 5) (nomark _)))))))).pt
              pss_never
              pss_nil)
          (pss_cons (ps_if ((pw_or (pt_not (pt_val (pe_cl c__law_apart hr (by omega) (by rfl) (pa_cons (pv 3) (pa_cons (pv 4) (pa_cons (pe_lst (pa_cons (pv 5) (pa_cons (pv 10) (pa_cons (pv 11) pa_nil)))) pa_nil)))))) (pw_or1 (pt_not (pt_val (pe_cl c__law_undone hr (by omega) (by rfl) (pa_cons (pv 12) (pa_cons (pv 6) pa_nil)))))))).pt
              pss_never
              pss_nil)
          (pss_cons (ps_if (pt_not (pt_val (pe_cl c__law_own_row_right hr (by omega) (by rfl) (pa_cons (pv 3) (pa_cons (pv 4) (pa_cons (pv 13) (pa_cons (pe_slice (kl_list (K := K)) (pv 7) po_none (po_some (pv 9))) pa_nil)))))))
              pss_never
              pss_nil)
          (pss_one (ps_if (pt_not (pt_val (pe_cl c__law_equal_right hr (by omega) (by rfl) (pa_cons (pv 3) (pa_cons (pv 4) (pa_cons (pv 5) pa_nil))))))
              pss_never
              pss_nil)))))))))))))
      (pss_cons (ps_set (i := 14) nd rfl (.inl rfl) (pe_omk mk_Book1 hr (by omega) (by rfl) (pa_cons (pe_tup (pa_cons (pe_tup (pa_cons (pe_tup (pa_cons pe_str (pa_cons pe_int (pa_cons pe_int (pa_cons pe_int pa_nil))))) pa_nil)) (pa_cons (pe_tup pa_nil) pa_nil))) (pa_cons (pe_tup (pa_cons (pe_tup (pa_cons pe_str (pa_cons pe_int (pa_cons pe_int pa_nil)))) pa_nil)) (pa_cons (pe_tup pa_nil) (pa_cons (pe_tup pa_nil) pa_nil))))))
      (pss_one (ps_ret (pe_and (pe_cmpR op_eq (ke_fld (K := K) (pv 14)) pe_int (nomark _)) (pe_and (pe_cmpR op_eq (pe_callB (kc_lenI len_Book hr (by omega)) (by rfl) T.len PySem.boot_len (pa_cons (pv 14) pa_nil)) pe_int (nomark _)) (pe_and (pe_cmpR (ko_eqI eq_Book hr (by omega)) (pv 14) (pe_omt0 m_Book_twin hr (by omega) (pv 14)) (nomark _)) (pe_one (pe_cmpR op_isBl (pe_omt0 m_Book_undo hr (by omega) (pv 14)) pe_bl (nomark _))))))))))), ?_⟩
    refine ⟨_, rfl, a, ns, rfl, hS, h63, fun H1 Cc ms s1 nC hC l1 l3 => ?_⟩
    have no : ∀ {v1 v2 v3 v4 : V} {sl : Int} {tl : Addr} {m : Str}, (m == ("palette" : Str)) = false → (m == ("kinds" : Str)) = false → (m == ("teams" : Str)) = false → (m == ("pots" : Str)) = false → (m == ("slots" : Str)) = false → (m == ("told" : Str)) = false → (bkF v1 v2 v3 v4 sl tl).lookup m = none := fun a b c d e f => bk_no a b c d e f
    simp only [gName, List.set, L2.start]
    refine seq_mid (fun σ Hx => ∃ v2 v3 v4 v5 v6 v7 v8 v9 v10 v11 v12 v13, σ = [some (.ref a), some (.ref Cc), v2, v3, v4, v5, v6, v7, v8, v9, v10, v11, v12, v13, none]) (fun N hN => ?_) (fun σ Hx g => ?_)
    · refine ⟨_, rfl, _, _, rfl, .inl ⟨_, SqL.of hC, rfl⟩, _, rfl, (by rw [List.length_map]; omega), (by rw [List.length_map]; omega), ?_⟩
      refine for_it walk_range (fun i σ H2 => ∃ v2 v3 v4 v5 v6 v7 v8 v9 v10 v11 v12 v13, σ = [some (.ref a), some (.ref Cc), v2, v3, v4, v5, v6, v7, v8, v9, v10, v11, v12, v13, none] ∧ H2 Cc = some (.lst (ms.map V.int))) ⟨_, _, _, _, _, _, _, _, _, _, _, _, rfl, hC⟩ (fun _ _ _ _ _ => trivial) ?_ ?_
      · clear hC
        rintro i x σ H2 H3 hi ⟨v2, v3, v4, v5, v6, v7, v8, v9, v10, v11, v12, v13, rfl, hC⟩ ⟨rfl, rfl⟩
        have hi2 : i < ms.length := by rw [List.length_map] at hi; omega
        simp only [gName, List.set]
        refine ⟨_, rfl, _, rfl, Cc, ms, i, (by show [_, V.int (0 + (i : Int))] = _; rw [Int.zero_add]), SqL.of hC, hi2, by omega, fun H4 b s4 nb B => ?_⟩
        simp only [gName, List.set]
        refine ⟨_, rfl, b, 0, false, rfl, B, by decide, fun H5 t h B5 s5 dh okh _ => ?_⟩
        have f5 : Same H3 H5 := fun o e he => sm1_at s5 (fun z => by rw [z, nb] at he; cases he) (s4 _ _ he)
        simp only [gName, List.set]
        refine ⟨_, rfl, .ref t, h, rfl, dh, fun H6 p tl u1 u2 u3 u4 s6 np ntl M => ?_⟩
        have f6 := f5.trans s6
        have B6 := B5.same s6
        have dh := dp_same s6 dh
        have bt : b ≠ tl := (B5.ne ntl).symm
        have n3t := f5.free ntl
        refine ⟨Nat.zero_le _, fun S0 nS0 => ?_⟩
        have sS0 := same_upd (o := .lst []) nS0
        have hS0 : upd H6 S0 (.lst []) S0 = some (.lst []) := upd_same
        obtain ⟨_, hl6, _⟩ := M.bk.li
        have S0l : S0 ≠ tl := fun z => by rw [z, hl6] at nS0; cases nS0
        have S0b := B6.ne nS0
        have M := M.same sS0
        have B7 := B6.same sS0
        have dh := dp_same sS0 dh
        have f7 := f6.trans sS0
        generalize upd H6 S0 (.lst []) = H7 at hS0 M B7 dh f7 ⊢
        refine ⟨(by show 1 ≤ sizeLine; decide), fun SL nSL => ?_⟩
        have sSL := same_upd (o := .lst [.ref S0]) nSL
        have hSL : upd H7 SL (.lst [.ref S0]) SL = some (.lst [.ref S0]) := upd_same
        obtain ⟨_, hl7, _⟩ := M.bk.li
        have SLl : SL ≠ tl := fun z => by rw [z, hl7] at nSL; cases nSL
        have SLb := B7.ne nSL
        have hS0 := sSL _ _ hS0
        have M := M.same sSL
        have B8 := B7.same sSL
        have dh := dp_same sSL dh
        have f8 := f7.trans sSL
        generalize upd H7 SL (.lst [.ref S0]) = H8 at hSL hS0 M B8 dh f8 ⊢
        refine ⟨Nat.zero_le _, fun TL nTL => ?_⟩
        have sTL := same_upd (o := .lst []) nTL
        have hTL : upd H8 TL (.lst []) TL = some (.lst []) := upd_same
        obtain ⟨_, hl8, _⟩ := M.bk.li
        have TLl : tl ≠ TL := fun z => by rw [← z, hl8] at nTL; cases nTL
        have TLb := B8.ne nTL
        have TLS : SL ≠ TL := fun z => by rw [← z, hSL] at nTL; cases nTL
        have TS0 : S0 ≠ TL := fun z => by rw [← z, hS0] at nTL; cases nTL
        have n3T := f8.free nTL
        have hS0 := sTL _ _ hS0
        have hSL := sTL _ _ hSL
        have M := M.same sTL
        have B9 := B8.same sTL
        have dh := dp_same sTL dh
        have f9 := f8.trans sTL
        generalize upd H8 TL (.lst []) = H9 at hTL hSL hS0 M B9 dh f9 ⊢
        clear sTL sSL sS0 f8 f7 f6 f5 B8 B7 B6 B5 hl6 hl7 hl8 nS0 nSL nTL s6 s5 s4 np ntl
        have nb3 : ∀ x ∈ [b, tl, TL], H3 x = none := fun x hx => by
          simp only [List.mem_cons, List.not_mem_nil, or_false] at hx
          rcases hx with z | z | z
          · rw [z]; exact nb
          · rw [z]; exact n3t
          · rw [z]; exact n3T
        have D0 : Os K C H3 H9 b (.ref t) h p tl u1 u2 u3 u4 h.sl TL [] 4000 := ⟨B9.mono (by omega), sm_of f9, dh, M.bk, ⟨[], hTL, .nil⟩, ⟨fun _ h => (List.not_mem_nil h).elim, fun i t e => by cases e⟩, rfl, fun _ h => (List.not_mem_nil h).elim⟩
        have st0 : StL K H9 [b, tl, TL] [.ref S0] (([] : List Turn).map rowOf) := fun i hi => ⟨S0, [], by
          have : i = 0 := by simpa using hi
          rw [this]; rfl, by simp [S0b, S0l, TS0], hS0, by rw [List.map_nil, List.take_nil, ents_nil]; exact .nil⟩
        refine ⟨_, _, _, rfl, ?_⟩
        simp only [List.set]
        refine seq_mid (fun σ Hx => ∃ ts us SL v8 v9 v10 v11 v12 v13, σ = [some (.ref a), some (.ref Cc), some (.int (0 + (i : Int))), some (.ref b), some (.ref t), some (.ref p), some (.ref SL), some (.ref TL), v8, v9, v10, v11, v12, v13, none] ∧ ts.length ≤ 30 ∧ Os K C H3 Hx b (.ref t) h p tl u1 u2 u3 u4 h.sl TL ts 6000 ∧ BkH K C Hx h p tl u1 u2 u3 u4 (ts.map rowOf) ∧ Hx SL = some (.lst us) ∧ SL ∉ [b, tl, TL] ∧ us.length = ts.length + 1 ∧ StL K Hx [b, tl, TL] us (ts.map rowOf)) (fun N hN => ?_) (fun σ Hx g => ?_)
        · refine ⟨_, rfl, b, 21, 4000, rfl, by decide, by decide, D0.B, by decide, fun HA r r0 r31 BA sA => ⟨_, _, rfl, rfl, _, rfl, by omega, by omega, ?_⟩⟩
          have D1 := D0.take sA BA bt TLb.symm
          have M1 := M.told okh sA (bp_nt D0.B) D1.bk
          have hSL1 := sm1_at sA SLb hSL
          have st1 := st0.sm sA (bp_nt D0.B) (by simp)
          refine for_it walk_range (fun j σ Hx => ∃ ts us SL v8 v9 v10 v11 v12 v13, σ = [some (.ref a), some (.ref Cc), some (.int (0 + (i : Int))), some (.ref b), some (.ref t), some (.ref p), some (.ref SL), some (.ref TL), v8, v9, v10, v11, v12, v13, none] ∧ ts.length ≤ j ∧ Os K C H3 Hx b (.ref t) h p tl u1 u2 u3 u4 h.sl TL ts (4001 + 60 * j) ∧ BkH K C Hx h p tl u1 u2 u3 u4 (ts.map rowOf) ∧ Hx SL = some (.lst us) ∧ SL ∉ [b, tl, TL] ∧ us.length = ts.length + 1 ∧ StL K Hx [b, tl, TL] us (ts.map rowOf)) ⟨[], _, SL, _, _, _, _, _, _, rfl, Nat.le_refl _, D1, M1, hSL1, by simp [SLb, SLl, TLS], rfl, st1⟩ (fun _ _ _ _ _ => trivial) ?_ ?_
          · clear D1 M1 hSL1 st1 st0 D0 hSL hS0 hTL M B9 dh f9 BA sA SLb SLl TLS S0b S0l TS0
            rintro j x σ Hx Hy hj ⟨ts, us, SL, v8, v9, v10, v11, v12, v13, rfl, lt, D, M, hSL, nSL, lu, st⟩ ⟨rfl, rfl⟩
            have hj30 : j < 30 := by omega
            obtain ⟨tu, hT, dT⟩ := D.t
            simp only [gName, List.set]
            refine ⟨_, rfl, _, rfl, _, rfl, _, rfl, b, p, tl, TL, .ref t, u1, u2, u3, u4, h, h.sl, tu, _, ts, _, rfl, D.B, by omega, D.hd, okh, D.bk, hT, dT, bt, TLb.symm, TLl, by rw [List.length_map]; omega, by omega, rows_nn D.gd, D.dk, fun H' us' rs' ts' B' s' M' hT' dT' sp => ?_⟩
            have fo := sp.form
            obtain ⟨rfl, g', n', dk', l'⟩ := sp.keeps D.gd D.nm D.dk
            have D' := D.next s' B' M' hT' dT' g' n' dk'
            have M := M.told okh s' D.nt M'
            have hSL := sm_at s' nSL hSL
            have st := st.sm s' D.nt (fun x hx => hx)
            clear D hT dT B' M' hT' dT' s'
            obtain ⟨dxp, hp⟩ := M.bk.ob
            have lrs : (ts'.map rowOf).length ≤ 1000 := by rw [List.length_map]; omega
            refine ⟨_, rfl, _, rfl, p, dxp, _, rfl, hp, no (by decide +kernel) (by decide +kernel) (by decide +kernel) (by decide +kernel) (by decide +kernel) (by decide +kernel), p, tl, u1, u2, u3, u4, h.sl, _, rfl, M.bk, _, rfl, SL, us, rfl, SqL.of hSL, fun S1 nS1 => ?_⟩
            rw [cut_head]
            have s1 := same_upd (o := .lst (us.take (ts'.map rowOf).length)) nS1
            have hS1 : upd H' S1 (.lst (us.take (ts'.map rowOf).length)) S1 = some (.lst (us.take (ts'.map rowOf).length)) := upd_same
            have D' := D'.same s1
            have M := M.same s1
            have st := st.same s1
            generalize upd H' S1 (.lst (us.take (ts'.map rowOf).length)) = Ha at hS1 D' M st ⊢
            clear s1 nS1 hSL hp
            obtain ⟨dxp, hp⟩ := M.bk.ob
            refine ⟨_, rfl, p, dxp, _, rfl, hp, no (by decide +kernel) (by decide +kernel) (by decide +kernel) (by decide +kernel) (by decide +kernel) (by decide +kernel), p, tl, u1, u2, u3, u4, h.sl, _, rfl, M.bk, lrs, fun Hb R zs sb nR hR dR => ⟨(by show 1 ≤ sizeLine; decide), fun L nL => ?_⟩⟩
            have Rn : R ∉ [b, tl, TL] := fun z => by
              simp only [List.mem_cons, List.not_mem_nil, or_false] at z
              rcases z with z | z | z
              · obtain ⟨_, _, _, hb, _⟩ := D'.B
                rw [z, hb] at nR; cases nR
              · obtain ⟨_, hl, _⟩ := D'.bk.li
                rw [z, hl] at nR; cases nR
              · obtain ⟨_, hl, _⟩ := D'.t
                rw [z, hl] at nR; cases nR
            have sL := same_upd (o := .lst [.ref R]) nL
            have hL : upd Hb L (.lst [.ref R]) L = some (.lst [.ref R]) := upd_same
            have s2 := sb.trans sL
            have hS1 := s2 _ _ hS1
            have D' := D'.same s2
            have M := M.same s2
            have st := st.same s2
            have hR := sL _ _ hR
            have dR := dpAll_same sL dR
            generalize upd Hb L (.lst [.ref R]) = Hc at hS1 D' M st hL hR dR ⊢
            clear s2 sL sb nR nL hp
            obtain ⟨st', lu'⟩ := st.step (rs' := ts'.map rowOf) (by rw [List.length_map]; exact lu) fo Rn hR dR
            refine ⟨S1, L, _, _, rfl, rfl, hS1, hL, by rw [List.length_map] at lu'; rw [List.length_append] at lu'; rw [sizeLine_eq, List.length_map]; omega, fun SL' nSL' => ?_⟩
            have s3 := same_upd (o := .lst (us.take (ts'.map rowOf).length ++ [.ref R])) nSL'
            have Sn : SL' ∉ [b, tl, TL] := fun z => by
              simp only [List.mem_cons, List.not_mem_nil, or_false] at z
              rcases z with z | z | z
              · obtain ⟨_, _, _, hb, _⟩ := D'.B
                rw [z, hb] at nSL'; cases nSL'
              · obtain ⟨_, hl, _⟩ := D'.bk.li
                rw [z, hl] at nSL'; cases nSL'
              · obtain ⟨_, hl, _⟩ := D'.t
                rw [z, hl] at nSL'; cases nSL'
            exact ⟨ts', _, SL', _, _, _, _, _, _, rfl, by omega, (D'.same s3).mono (by omega), M.same s3, upd_same, Sn, by rw [lu', List.length_map], st'.same s3⟩
          · rintro σ He ⟨ts, us, SL, v8, v9, v10, v11, v12, v13, rfl, lt, D, M, hSL, nSL, lu, st⟩
            exact hN _ _ ⟨ts, us, SL, _, _, _, _, _, _, rfl, by omega, D.mono (by omega), M, hSL, nSL, lu, st⟩
        · obtain ⟨ts, us, SL, v8, v9, v10, v11, v12, v13, rfl, lt, D, M, hSL, nSL, lu, st⟩ := g
          clear st0 D0 hS0 hTL B9 dh f9
          have fx : Same H3 Hx := same_sm (Same.refl H3) D.fr nb3
          obtain ⟨dxp, hp⟩ := M.bk.ob
          have lrs : (ts.map rowOf).length ≤ 30 := by rw [List.length_map]; omega
          refine ⟨_, rfl, _, rfl, p, dxp, _, rfl, hp, no (by decide +kernel) (by decide +kernel) (by decide +kernel) (by decide +kernel) (by decide +kernel) (by decide +kernel), p, tl, u1, u2, u3, u4, h.sl, _, rfl, M.bk, _, _, rfl, rfl, b, _, _, rfl, by omega, by omega, D.B, by omega, fun Ha m0 m1 m2 Ba sa => ?_⟩
          obtain ⟨m, rfl⟩ : ∃ m : Nat, m0 = (m : Int) := ⟨m0.toNat, by omega⟩
          have mle : m ≤ (ts.map rowOf).length := by omega
          have nb := bp_nt D.B
          have D' := D.take sa Ba bt TLb.symm
          have M := M.told okh sa nb D'.bk
          have hSL := sm1_at sa (fun z => nSL (by rw [z]; simp)) hSL
          have st := st.sm sa nb (by simp)
          have fa := same_sm fx sa (by simp [nb3])
          obtain ⟨tu, hT, dT⟩ := D'.t
          have hd := D'.hd
          have gd_ := D'.gd
          have nm := D'.nm
          have dk := D'.dk
          clear D D' sa fx hp nb
          have ge := ents_gd dk
          have nSb : SL ≠ b := fun z => nSL (by rw [z]; simp)
          have nSt : SL ≠ tl := fun z => nSL (by rw [z]; simp)
          have bT : b ≠ TL := TLb.symm
          simp only [gName, List.set]
          -- four Books more
          obtain ⟨dxp, hp⟩ := M.bk.ob
          refine ⟨_, rfl, p, dxp, _, rfl, hp, no (by decide +kernel) (by decide +kernel) (by decide +kernel) (by decide +kernel) (by decide +kernel) (by decide +kernel), _, rfl, p, tl, u1, u2, u3, u4, h.sl, _, m, rfl, M.bk, mle, by omega, fun Hb p2 tl2 sb np2 nt2 M2 => ?_⟩
          have b2 := Ba.ne nt2
          have t2 := M.bk.ne nt2
          have S2 := lst_ne hSL nt2
          have T2 := lst_ne hT nt2
          have n32 := fa.free nt2
          have st := (st.grow nt2).same sb
          have M := M.same sb
          have Ba := Ba.same sb
          have hSL := sb _ _ hSL
          have hT := sb _ _ hT
          have dT := dpAll_same sb dT
          have hd := dp_same sb hd
          have fb := fa.trans sb
          have hp := sb _ _ hp
          refine ⟨_, rfl, p, dxp, _, rfl, hp, no (by decide +kernel) (by decide +kernel) (by decide +kernel) (by decide +kernel) (by decide +kernel) (by decide +kernel), p, tl, u1, u2, u3, u4, h.sl, _, rfl, M.bk, by omega, fun Hc p3 tl3 sc np3 nt3 M3 => ⟨_, _, rfl, ?_⟩⟩
          have b3 := Ba.ne nt3
          have t3 := M.bk.ne nt3
          have t23 := M2.ne nt3
          have S3 := lst_ne hSL nt3
          have T3 := lst_ne hT nt3
          have n33 := fb.free nt3
          have st := (st.grow nt3).same sc
          have M := M.same sc
          have M2 := M2.same sc
          have Ba := Ba.same sc
          have hSL := sc _ _ hSL
          have hT := sc _ _ hT
          have dT := dpAll_same sc dT
          have hd := dp_same sc hd
          have fc := fb.trans sc
          have hp := sc _ _ hp
          simp only [List.set]
          refine ⟨_, rfl, p, dxp, _, rfl, hp, no (by decide +kernel) (by decide +kernel) (by decide +kernel) (by decide +kernel) (by decide +kernel) (by decide +kernel), p, tl, u1, u2, u3, u4, h.sl, _, rfl, M.bk, by omega, fun Hd p4 tl4 sd np4 nt4 M4 => ?_⟩
          have b4 := Ba.ne nt4
          have t4 := M.bk.ne nt4
          have t24 := M2.ne nt4
          have t34 := M3.ne nt4
          have S4 := lst_ne hSL nt4
          have T4 := lst_ne hT nt4
          have n34 := fc.free nt4
          have st := (st.grow nt4).same sd
          have M := M.same sd
          have M2 := M2.same sd
          have M3 := M3.same sd
          have Ba := Ba.same sd
          have hSL := sd _ _ hSL
          have hT := sd _ _ hT
          have dT := dpAll_same sd dT
          have hd := dp_same sd hd
          have fd_ := fc.trans sd
          have hp := sd _ _ hp
          refine ⟨_, rfl, p, dxp, _, rfl, hp, no (by decide +kernel) (by decide +kernel) (by decide +kernel) (by decide +kernel) (by decide +kernel) (by decide +kernel), _, rfl, p, tl, u1, u2, u3, u4, h.sl, _, m, rfl, M.bk, mle, by omega, fun He p5 tl5 se np5 nt5 M5 => ⟨_, _, rfl, ?_⟩⟩
          have b5 := Ba.ne nt5
          have t5 := M.bk.ne nt5
          have t25 := M2.ne nt5
          have t35 := M3.ne nt5
          have t45 := M4.ne nt5
          have S5 := lst_ne hSL nt5
          have T5 := lst_ne hT nt5
          have n35 := fd_.free nt5
          have st := st.same se
          have M := M.same se
          have M2 := M2.same se
          have M3 := M3.same se
          have M4 := M4.same se
          have Ba := Ba.same se
          have hSL := se _ _ hSL
          have hT := se _ _ hT
          have dT := dpAll_same se dT
          have hd := dp_same se hd
          have fe := fd_.trans se
          clear sb sc sd se fa fb fc fd_ hp np2 np3 np4 np5 nt2 nt3 nt4 nt5
          simp only [List.set]
          obtain ⟨dx2, hp2⟩ := M2.ob
          have e2 : ((ts.map rowOf).take m).length = m := by rw [List.length_take]; omega
          refine ⟨_, rfl, p2, dx2, _, rfl, hp2, no (by decide +kernel) (by decide +kernel) (by decide +kernel) (by decide +kernel) (by decide +kernel) (by decide +kernel), p2, tl2, u1, u2, u3, u4, h.sl, _, rfl, M2, _, rfl, rfl, _, rfl, ?_⟩
          rw [e2, show (!decide (V.int (m : Nat) = V.int (m : Nat))) = false by simp]
          refine iteF ?_
          refine ⟨_, rfl, p2, dx2, _, rfl, hp2, no (by decide +kernel) (by decide +kernel) (by decide +kernel) (by decide +kernel) (by decide +kernel) (by decide +kernel), p2, tl2, u1, u2, u3, u4, h.sl, _, rfl, M2, by omega, fun Hf R zs sf nR hR dR => ?_⟩
          have st := st.same sf
          have M := M.same sf
          have M2 := M2.same sf
          have M3 := M3.same sf
          have M4 := M4.same sf
          have M5 := M5.same sf
          have Ba := Ba.same sf
          have hSL := sf _ _ hSL
          have hT := sf _ _ hT
          have dT := dpAll_same sf dT
          have hd := dp_same sf hd
          have ff := fe.trans sf
          clear fe sf nR hp2
          obtain ⟨L9, ys, g1, g2, g3, g4⟩ := st m mle
          obtain ⟨mg_, hg⟩ := ents_gd (ts := ts.take m) (fun t ht => dk t (List.mem_of_mem_take ht))
          rw [List.map_take] at hg
          have sh := gd_shaped (m := mg_) hg (by have := ents_depth ((ts.map rowOf).take m); omega)
          refine ⟨_, rfl, _, rfl, SL, us, _, _, rfl, rfl, SqL.of hSL, atI_nat g1, .list (entsD ((ts.map rowOf).take m)), .list (entsD ((ts.map rowOf).take m)), .lst (SqL.of hR) dR, .lst (SqL.of g3) g4, sh, sh, _, rfl, ?_⟩
          rw [SeqAt.eqv_refl _ (gd_lay _ hg)]
          refine iteF ?_
          have X1 := M.x okh ge (by omega)
          have X3 : BkX K C Hf p3 (xH h) tl3 (ts.map rowOf) := BkH.x (h := h) ⟨M3, M.d1, M.d2, M.d3, M.d4⟩ okh ge (by omega)
          have eT := eqB_same (rs := ts.map rowOf) (ss := ts.map rowOf) okh rfl ge
          obtain ⟨dxp, hp⟩ := M.bk.ob
          obtain ⟨dx3, hp3⟩ := M3.ob
          refine ⟨_, rfl, _, rfl, p3, dx3, _, p, C, dxp, _, rfl, rfl, hp3, hp, nfB, p3, tl3, xH h, _, _, rfl, X3, .inl ⟨p, tl, xH h, _, rfl, X1, fun Hg sg => ?_⟩⟩
          rw [eT]
          refine ⟨true, rfl, _, rfl, _, rfl, iteF ?_⟩
          refine ⟨_, rfl, _, rfl, p3, dx3, _, p, C, dxp, _, rfl, rfl, sg _ _ hp3, sg _ _ hp, nfB, p3, tl3, xH h, _, _, rfl, X3.same sg, .inl ⟨p, tl, xH h, _, rfl, X1.same sg, fun Hh sh_ => ?_⟩⟩
          rw [eT]
          refine ⟨true, rfl, true, rfl, iteF ?_⟩
          have sg := sg.trans sh_
          have st := st.same sg
          have M := M.same sg
          have M2 := M2.same sg
          have M3 := M3.same sg
          have M4 := M4.same sg
          have M5 := M5.same sg
          have Ba := Ba.same sg
          have hSL := sg _ _ hSL
          have hT := sg _ _ hT
          have dT := dpAll_same sg dT
          have hd := dp_same sg hd
          have fh := ff.trans sg
          clear X1 X3 sg sh_ ff hp hp3 g1 g2 g3 g4 hR dR sh hg
          refine ⟨_, rfl, _, rfl, _, rfl, _, rfl, _, rfl, (by show 3 ≤ sizeLine; decide), fun LB nLB => ?_⟩
          have sL := same_upd (o := .lst [V.ref p, .ref p2, .ref p3]) nLB
          have hLB : upd Hh LB (.lst [V.ref p, .ref p2, .ref p3]) LB = some (.lst [V.ref p, .ref p2, .ref p3]) := upd_same
          have Bb := Ba.ne nLB
          have B1_ := M.bk.ne nLB
          have B2_ := M2.ne nLB
          have B3_ := M3.ne nLB
          have st := st.same sL
          have M := M.same sL
          have M2 := M2.same sL
          have M3 := M3.same sL
          have M4 := M4.same sL
          have M5 := M5.same sL
          have Ba := Ba.same sL
          have hSL := sL _ _ hSL
          have hT := sL _ _ hT
          have dT := dpAll_same sL dT
          have hd := dp_same sL hd
          have fi := fh.trans sL
          generalize upd Hh LB (.lst [V.ref p, .ref p2, .ref p3]) = Hi at hLB st M M2 M3 M4 M5 Ba hSL hT dT hd fi ⊢
          clear sL nLB fh
          refine ⟨b, LB, .ref t, u1, u2, u3, u4, h, h.sl, [(p, tl), (p2, tl2), (p3, tl3)], [ts, ts.take m, ts], _, 40, rfl, Ba, by omega, by decide, hd, okh, rfl, rfl, hLB, by simp [B1_.symm, B2_.symm, B3_.symm], Bb.symm, by simp [bt, b2.symm, b3.symm], by simp [t2, t3, t23], ?_, fun Hj tss Bj sj lj bj => ?_⟩
          · intro j pt ts' g1 g2
            match j, g1, g2 with
            | 0, g1, g2 => cases g1; cases g2; exact ⟨M.bk, gd_, nm, dk, by omega⟩
            | 1, g1, g2 =>
              cases g1; cases g2
              exact ⟨by rw [List.map_take]; exact M2, gd_.take m, nm.take m, fun t ht => dk t (List.mem_of_mem_take ht), by rw [List.length_take]; omega⟩
            | 2, g1, g2 => cases g1; cases g2; exact ⟨M3, gd_, nm, dk, by omega⟩
            | j + 3, g1, g2 => cases g1
          have sj : Sm [b, tl, tl2, tl3] Hi Hj := sj
          have lsU : LS [b, tl, tl2, tl3] Hi := fun x hx => by
            simp only [List.mem_cons, List.not_mem_nil, or_false] at hx
            rcases hx with z | z | z | z
            · rw [z]; exact Ba.ls1
            · rw [z]; exact M.bk.ls1
            · rw [z]; exact M2.ls1
            · rw [z]; exact M3.ls1
          obtain ⟨ta, ga⟩ : ∃ x, tss[0]? = some x := ⟨_, List.getElem?_eq_getElem (by omega)⟩
          have Da := bj 0 (p, tl) ta rfl ga
          have M := M.told okh sj lsU.nt Da.bk
          have M4 := M4.ls sj lsU (by simp [b4, t4.symm, t24.symm, t34.symm])
          have M5 := M5.ls sj lsU (by simp [b5, t5.symm, t25.symm, t35.symm])
          have st := st.sm sj lsU.nt (fun x hx => by
            simp only [List.mem_cons, List.not_mem_nil, or_false] at hx ⊢
            rcases hx with z | z | z | z <;> simp [z])
          have hSL := sm_at sj (x := SL) (by simp [nSb, nSt, S2, S3]) hSL
          have hT := sm_at sj (x := TL) (by simp [bT.symm, TLl.symm, T2, T3]) hT
          have dT := dpAll_nt dT (noL_map (f := tuD) noL_tu _) sj lsU.nt
          have hd := dp_nt hd (noL_hall h) sj lsU.nt
          have fj := same_sm fi sj (fun x hx => by
            simp only [List.mem_cons, List.not_mem_nil, or_false] at hx
            rcases hx with z | z | z | z
            · rw [z]; exact nb
            · rw [z]; exact n3t
            · rw [z]; exact n32
            · rw [z]; exact n33)
          clear bj lj fi sj lsU M2 M3 Ba hLB Bb B1_ B2_ B3_
          refine ⟨true, rfl, iteF ?_⟩
          refine ⟨_, rfl, _, rfl, p4, tl4, SL, u1, u2, u3, u4, h.sl, us, ts, rfl, M4, hSL, S4, lu, by omega, st.less (by simp), dk, fun Hk sk => ⟨true, rfl, iteF ?_⟩⟩
          have ls4 : LS [tl4] Hj := fun x hx => by rw [List.mem_singleton.mp hx]; exact M4.ls1
          have M := M.told okh sk ls4.nt (M.bk.ls sk ls4 (by simp [t4]))
          have M5 := M5.ls sk ls4 (by simp [t45.symm])
          have Bj := (show Bp Hk b _ from by
            obtain ⟨x, y, z, hb, r⟩ := Bj
            exact ⟨x, y, z, sm1_at sk b4.symm hb, r⟩ : Bp Hk b (6000 + 1 + 600))
          have hT := sm1_at sk T4 hT
          have dT := dpAll_nt dT (noL_map (f := tuD) noL_tu _) sk ls4.nt
          have hd := dp_nt hd (noL_hall h) sk ls4.nt
          have fk := same_sm fj sk (by simp [n34])
          clear st hSL M4 ls4 sk fj
          refine ⟨_, rfl, _, rfl, _, rfl, _, rfl, _, rfl, _, rfl, TL, tu, rfl, SqL.of hT, fun T9 nT9 => ?_⟩
          rw [cut_head]
          have s9 := same_upd (o := .lst (tu.take m)) nT9
          have hT9 : upd Hk T9 (.lst (tu.take m)) T9 = some (.lst (tu.take m)) := upd_same
          have b9 := Bj.ne nT9
          have t9 := M.bk.ne nT9
          have t59 := M5.ne nT9
          have n39 := fk.free nT9
          have M := M.same s9
          have M5 := M5.same s9
          have Bj := Bj.same s9
          have dT := dpAll_take m (dpAll_same s9 dT)
          have hd := dp_same s9 hd
          have fl := fk.trans s9
          generalize upd Hk T9 (.lst (tu.take m)) = Hl at hT9 M M5 Bj dT hd fl ⊢
          clear s9 nT9 fk hT
          rw [← List.map_take] at dT
          have D5 : Os K C Hl Hl b (.ref t) h p5 tl5 u1 u2 u3 u4 h.sl T9 (ts.take m) (6000 + 1 + 600) := ⟨Bj, Same.refl _, hd, by rw [List.map_take]; exact M5, ⟨_, hT9, dT⟩, gd_.take m, nm.take m, fun t ht => dk t (List.mem_of_mem_take ht)⟩
          refine ⟨b, p5, tl5, T9, .ref t, u1, u2, u3, u4, h, h.sl, ts.take m, _, rfl, okh, b5.symm, b9.symm, t59, D5, by rw [List.length_take]; omega, by omega, fun Hm Bm sm_ => ⟨true, rfl, iteF ?_⟩⟩
          have ntm := D5.nt
          have pm : p ∉ [b, tl5, T9] := fun z => by
            obtain ⟨_, hp⟩ := M.bk.ob
            simp only [List.mem_cons, List.not_mem_nil, or_false] at z
            rcases z with z | z | z
            · obtain ⟨_, h1⟩ := Bj.ls1
              rw [z, h1] at hp; cases hp
            · obtain ⟨_, h1⟩ := M5.ls1
              rw [z, h1] at hp; cases hp
            · rw [z, hT9] at hp; cases hp
          have M := M.told okh sm_ ntm (M.bk.sm sm_ pm (by simp [bt.symm, t5, t9]) ntm)
          have hd := dp_nt hd (noL_hall h) sm_ ntm
          have fm := same_sm fl sm_ (fun x hx => by
            simp only [List.mem_cons, List.not_mem_nil, or_false] at hx
            rcases hx with z | z | z
            · rw [z]; exact nb
            · rw [z]; exact n35
            · rw [z]; exact n39)
          have la := Da.ln
          refine ⟨_, rfl, _, rfl, _, rfl, b, p, tl, .ref t, u1, u2, u3, u4, h, ta, rfl, hd, okh, M, Da.gd, Da.nm, Da.dk, by omega, fun Hn sn => ⟨true, rfl, iteF ?_⟩⟩
          exact ⟨_, _, _, _, _, _, _, _, _, _, _, _, rfl, (fm.trans sn) _ _ hC⟩
      · rintro σ He ⟨v2, v3, v4, v5, v6, v7, v8, v9, v10, v11, v12, v13, rfl, _⟩
        exact hN _ _ ⟨_, _, _, _, _, _, _, _, _, _, _, _, rfl⟩
    · obtain ⟨v2, v3, v4, v5, v6, v7, v8, v9, v10, v11, v12, v13, rfl⟩ := g
      refine ⟨(by show 4 ≤ sizeLine; decide), fun A1 m1 => ?_⟩
      have d1 := tup_dp (K := K) (H := Hx) (.cons (.str "a") (.cons (.int 1) (.cons (.int 0) (.cons (.int 1) .nil)))) m1
      generalize upd Hx A1 (.tup [.str "a", .int 1, .int 0, .int 1]) = G1_ at d1 ⊢
      refine ⟨(by show 1 ≤ sizeLine; decide), fun A2 m2 => ?_⟩
      have d2 := tup_dp (K := K) (H := G1_) (.cons d1 .nil) m2
      generalize upd G1_ A2 (.tup [.ref A1]) = G2 at d2 ⊢
      refine ⟨Nat.zero_le _, fun A3 m3 => ?_⟩
      have d3 := tup_dp (K := K) (H := G2) .nil m3
      have d2 := dp_same (same_upd (o := .tup []) m3) d2
      generalize upd G2 A3 (.tup []) = G3 at d2 d3 ⊢
      refine ⟨(by show 2 ≤ sizeLine; decide), fun A4 m4 => ?_⟩
      have d4 := tup_dp (K := K) (H := G3) (.cons d2 (.cons d3 .nil)) m4
      generalize upd G3 A4 (.tup [.ref A2, .ref A3]) = G4 at d4 ⊢
      refine ⟨(by show 3 ≤ sizeLine; decide), fun A5 m5 => ?_⟩
      have d5 := tup_dp (K := K) (H := G4) (.cons (.str "k") (.cons (.int 1) (.cons (.int 1) .nil))) m5
      have d4 := dp_same (same_upd (o := .tup [.str "k", .int 1, .int 1]) m5) d4
      generalize upd G4 A5 (.tup [.str "k", .int 1, .int 1]) = G5 at d4 d5 ⊢
      refine ⟨(by show 1 ≤ sizeLine; decide), fun A6 m6 => ?_⟩
      have d6 := tup_dp (K := K) (H := G5) (.cons d5 .nil) m6
      have d4 := dp_same (same_upd (o := .tup [.ref A5]) m6) d4
      generalize upd G5 A6 (.tup [.ref A5]) = G6 at d4 d6 ⊢
      refine ⟨Nat.zero_le _, fun A7 m7 => ?_⟩
      have d7 := tup_dp (K := K) (H := G6) .nil m7
      have s7 := same_upd (o := .tup []) m7
      have d4 := dp_same s7 d4
      have d6 := dp_same s7 d6
      generalize upd G6 A7 (.tup []) = G7 at d4 d6 d7 ⊢
      refine ⟨Nat.zero_le _, fun A8 m8 => ?_⟩
      have d8 := tup_dp (K := K) (H := G7) .nil m8
      have s8 := same_upd (o := .tup []) m8
      have d4 := dp_same s8 d4
      have d6 := dp_same s8 d6
      have d7 := dp_same s8 d7
      generalize upd G7 A8 (.tup []) = G8 at d4 d6 d7 d8 ⊢
      intro q2 dq nq2 ndq neq
      refine ⟨G8, q2, dq, _, _, _, _, 12, rfl, ins_new nq2 ndq neq, nq2, upd_same, fun G9 tl s9 nt9 ne9 M => ⟨rfl, ?_⟩⟩
      have d4 := dp_same s9 d4
      have d6 := dp_same s9 d6
      have d7 := dp_same s9 d7
      have d8 := dp_same s9 d8
      clear s8 m1 m2 m3 m4 m5 m6 m7 m8 s7
      have N := O.k
      let X0 : BkV := ⟨.tuple [.tuple [.tuple [.str "a", .int 1, .int 0, .int 1]], .tuple []], .tuple [.tuple [.str "k", .int 1, .int 1]], .tuple [], .tuple [], 12⟩
      have X1 : BkX K C G9 q2 X0 tl [] := ⟨⟨_, _, _, _, M, d4, d6, d7, d8⟩, by decide +kernel, by decide +kernel, by decide +kernel, by decide +kernel, by rw [ents_nil]; decide +kernel, by decide⟩
      have eT : eqB X0 X0 [] [] = true := by
        unfold eqB
        rw [ents_nil]
        decide +kernel
      obtain ⟨dxq, hq⟩ := M.ob
      simp only [gName, List.set]
      refine ⟨_, rfl, q2, C, dxq, _, _, rfl, hq, N.cl, N.a4, bf_slots _ _ _ _ _ _, rfl, _, rfl, ?_⟩
      rw [decide_eq_true rfl]
      refine iteT ?_
      refine ⟨_, rfl, q2, dxq, _, rfl, hq, q2, tl, _, _, _, _, _, [], rfl, M, by decide, fun Ha sa => ⟨_, rfl, ?_, ?_⟩⟩
      · rw [ents_nil]; decide
      rw [ents_nil]
      refine ⟨rfl, _, rfl, ?_⟩
      rw [show decide (V.int (([] : List PyData).length : Nat) = V.int 0) = true from by decide]
      refine iteT ?_
      have M := M.same sa
      have X1 := X1.same sa
      have hq := sa _ _ hq
      refine ⟨_, rfl, _, rfl, q2, dxq, _, rfl, hq, no (by decide +kernel) (by decide +kernel) (by decide +kernel) (by decide +kernel) (by decide +kernel) (by decide +kernel), q2, tl, _, _, _, _, _, [], rfl, M, by decide, fun Hb p3 tl3 sb np nt M3 => ?_⟩
      obtain ⟨dx3, hp3⟩ := M3.ob
      have sab := sa.trans sb
      have X3 : BkX K C Hb p3 X0 tl3 [] := ⟨⟨_, _, _, _, M3, dp_same sab d4, dp_same sab d6, dp_same sab d7, dp_same sab d8⟩, X1.s1, X1.s2, X1.s3, X1.s4, X1.se, X1.l⟩
      refine ⟨q2, dxq, _, p3, C, dx3, _, rfl, rfl, sb _ _ hq, hp3, nfB, q2, tl, X0, [], _, rfl, X1.same sb, .inl ⟨p3, tl3, X0, [], rfl, X3, fun Hc sc => ?_⟩⟩
      rw [eT]
      refine ⟨true, rfl, _, rfl, iteT ?_⟩
      have hq := (sb.trans sc) _ _ hq
      refine ⟨_, rfl, q2, dxq, _, rfl, hq, no (by decide +kernel) (by decide +kernel) (by decide +kernel) (by decide +kernel) (by decide +kernel) (by decide +kernel), q2, tl, _, _, _, _, _, [], rfl, M.same (sb.trans sc), fun _ => ⟨false, false, rfl, rfl, ?_⟩, fun z => absurd rfl z⟩
      exact q _

end
end Pot

namespace Pot
open PySem PySem.Spec PyProof.Rows L2
theorem nf_of {K : PySem.W.Frag} {C : Addr} {t : Value} (h : PySem.W.subIn K t (.ref C) = some false) : PySem.W.notFirst K C t = true := by
  unfold PySem.W.notFirst
  rw [h]
  simp
theorem oex_of {K : PySem.W.Frag} {C : Addr} {bmB : List Value} {newId : String} (q : PySem.W.excInitIn K C bmB newId = true) (hd : PySem.W.hasDictIn K C = true) :
    ∃ nm q N bs bm sn sub ab col dd k0 k1 k2 k3 k5, K.lookup C = some (excClassObj nm q C N bs bm true sn sub ab col dd k0 k1 k2 k3 k5 newId) ∧ PySem.W.excTail bmB bm = true := by
  obtain ⟨cd, hc, hdd⟩ := PySem.W.any_some hd
  unfold PySem.W.excInitIn at q
  unfold PySem.W.clsIn at hc
  cases look : K.lookup C with
  | none => rw [look] at q; cases q
  | some o =>
    rw [look] at q hc
    obtain ⟨cl, dd, da, sl⟩ := o
    cases da with
    | cls cd2 =>
      cases hc
      split at q
      · rename_i here
        cases here
        split at q
        · rename_i C' bm k0 k1 k2 k3 n k5 hm hs
          simp only [Bool.and_eq_true, beq_iff_eq, Bool.not_eq_true'] at q
          obtain ⟨⟨⟨rfl, rfl⟩, del⟩, tail⟩ := q
          obtain ⟨nm, bs, mro, ns, qn, hd3, sn, sub, ab, col, dl⟩ := cd
          dsimp only at hm del hdd
          subst hm del hdd
          obtain ⟨sl⟩ := sl
          dsimp only at hs
          subst hs
          exact ⟨nm, qn, ns, bs, bm, sn, sub, ab, col, _, k0, k1, k2, k3, k5, rfl, tail⟩
        · cases q
      · cases q
    | _ => cases hc
theorem kit_subc {K : PySem.W.Frag} {t : Value} {C : Addr} {b : Bool} (ne : (t == Value.ref C) = false) (hd : PySem.W.hasDictIn K C = true) (ht : PySem.W.typeIn K (.ref C) = some (.type "type")) (hs : PySem.W.subIn K t (.ref C) = some b) : PySem.W.kitOne K t (.ref C) = some b := by
  obtain ⟨cd, hc, _⟩ := PySem.W.any_some hd
  have e2 : ((PySem.W.clsIn K C).isSome && PySem.W.typeIn K (.ref C) == some (.type "type")) = true := by rw [hc, ht] <;> rfl
  show (if (t == Value.ref C) = true then some true else (if ((PySem.W.clsIn K C).isSome && PySem.W.typeIn K (.ref C) == some (.type "type")) = true then PySem.W.subIn K t (.ref C) else none)) = some b
  rw [if_neg (by rw [ne]; exact Bool.false_ne_true), if_pos e2]
  exact hs
theorem kit_tyb {K : PySem.W.Frag} {C : Addr} {n : String} {b : Bool} (hm : PySem.W.kitMeta n = true) (hs : PySem.W.subIn K (.ref C) (.type n) = some b) : PySem.W.kitOne K (.ref C) (.type n) = some b := by
  show (if (Value.ref C == Value.type n) = true then some true else (if PySem.W.kitMeta n = true then PySem.W.subIn K (.ref C) (.type n) else none)) = some b
  rw [if_neg (by show ¬ (false = true); exact Bool.false_ne_true), if_pos hm]
  exact hs
theorem kit_four {K : PySem.W.Frag} {t a b c d : Value} (h1 : PySem.W.kitOne K t a = some false) (h2 : PySem.W.kitOne K t b = some false) (h3 : PySem.W.kitOne K t c = some false) (h4 : PySem.W.kitOne K t d = some false) : PySem.W.kitAny K t [a, b, c, d] = some false := by
  unfold PySem.W.kitAny; rw [h1]
  unfold PySem.W.kitAny; rw [h2]
  unfold PySem.W.kitAny; rw [h3]
  unfold PySem.W.kitAny; rw [h4]
  rfl
theorem along_le (K : PySem.W.Frag) : PySem.W.alongIn K "__init__" leTail = some (some (.builtin "LookupError.__init__")) := by kernel_rfl
theorem super_le {K : PySem.W.Frag} {C : Addr} {cd : ClassData} (h : PySem.W.clsIn K C = some cd) (m : cd.mro = .ref C :: leTail) : PySem.W.ks_superIn K C C "__init__" = some (some (.builtin "LookupError.__init__")) := by
  unfold PySem.W.ks_superIn
  rw [h]
  show PySem.W.alongIn K "__init__" ((cd.mro.dropWhile (· != .ref C)).drop 1) = _
  rw [m]
  have e : ((Value.ref C :: leTail).dropWhile (· != .ref C)).drop 1 = leTail := by simp [List.dropWhile_cons]
  rw [e]
  exact along_le K
theorem kit_self {K : PySem.W.Frag} {C : Addr} : PySem.W.kitOne K (.ref C) (.ref C) = some true := by
  show (if (Value.ref C == Value.ref C) = true then some true else _) = some true
  rw [if_pos (by simp)]
theorem super_he {K : PySem.W.Frag} {C cH : Addr} {cd cdH : ClassData} {v : Value} (h : PySem.W.clsIn K C = some cd) (m : cd.mro = .ref C :: .ref cH :: veTail) (hH : PySem.W.clsIn K cH = some cdH) (mH : cdH.mro = .ref cH :: veTail) (f : PySem.W.findIn K (.ref cH) "__init__" = some (some v)) : PySem.W.ks_superIn K C C "__init__" = some (some v) := by
  have e : PySem.W.alongIn K "__init__" (.ref cH :: veTail) = some (some v) := by
    rw [← mH, ← f]
    unfold PySem.W.clsIn at hH
    show _ = (match K.lookup cH with | some ⟨_, _, .cls cd, _⟩ => PySem.W.alongIn K "__init__" cd.mro | _ => none)
    cases look : K.lookup cH with
    | none => rw [look] at hH; cases hH
    | some o =>
      rw [look] at hH
      obtain ⟨cl, dd, da, sl⟩ := o
      cases da with
      | cls cd2 => cases hH; rfl
      | _ => cases hH
  unfold PySem.W.ks_superIn
  rw [h]
  show PySem.W.alongIn K "__init__" ((cd.mro.dropWhile (· != .ref C)).drop 1) = _
  rw [m]
  have e2 : ((Value.ref C :: Value.ref cH :: veTail).dropWhile (· != .ref C)).drop 1 = .ref cH :: veTail := by simp [List.dropWhile_cons]
  rw [e2]
  exact e
theorem kit_two {K : PySem.W.Frag} {t a b : Value} (h1 : PySem.W.kitOne K t a = some false) (h2 : PySem.W.kitOne K t b = some false) : PySem.W.kitAny K t [a, b] = some false := by
  unfold PySem.W.kitAny; rw [h1]
  unfold PySem.W.kitAny; rw [h2]
  rfl
theorem binds_ns {P : Program} {K : PySem.W.Frag} {f C : Addr} {fd : FuncData} (F : RSup.FunS P K "__init__" "NoSuch.__init__" s_NoSuch f C fd) : Binds K fd ["self", "what", "name"] [] := by
  obtain ⟨cda, cc, oc, od, kV, doc, pm, an, ct, osl, cl, cld, csl, ccl, cdd, ws, ccs, file, tf, rfl, _⟩ := F.ex
  exact .all fun us hl => match us, hl with | [_, _, _], _ => rfl
set_option maxHeartbeats 4000000 in
theorem all_mk {l : PySem.W.OpenLaw} {w : World} {K : PySem.W.Frag} {h : Heap} {mg : Str → Option Value} {fa : Addr} (X : K.In h) (G : h.Ns mainGlobals mg) (hfa : mg "law" = some (.ref fa))
    {f1 : Addr} {od1 an1 : Option Addr} {sl1 : Array (Option Value)} {oc1 kV1 dc1 pm1 cd1 ct1 : Value}
    {f2 : Addr} {od2 an2 : Option Addr} {sl2 : Array (Option Value)} {oc2 kV2 dc2 pm2 cd2 ct2 : Value}
    {f3 : Addr} {od3 an3 : Option Addr} {sl3 : Array (Option Value)} {oc3 kV3 dc3 pm3 cd3 ct3 : Value}
    {f4 : Addr} {od4 an4 : Option Addr} {sl4 : Array (Option Value)} {oc4 kV4 dc4 pm4 cd4 ct4 : Value}
    {f5 : Addr} {od5 an5 : Option Addr} {sl5 : Array (Option Value)} {oc5 kV5 dc5 pm5 cd5 ct5 : Value}
    {f6 : Addr} {od6 an6 : Option Addr} {sl6 : Array (Option Value)} {oc6 kV6 dc6 pm6 cd6 ct6 : Value}
    {f7 : Addr} {od7 an7 : Option Addr} {sl7 : Array (Option Value)} {oc7 kV7 dc7 pm7 cd7 ct7 : Value}
    {f8 : Addr} {od8 an8 : Option Addr} {sl8 : Array (Option Value)} {oc8 kV8 dc8 pm8 cd8 ct8 : Value}
    {f9 : Addr} {od9 an9 : Option Addr} {sl9 : Array (Option Value)} {oc9 kV9 dc9 pm9 cd9 ct9 : Value}
    {f10 : Addr} {od10 an10 : Option Addr} {sl10 : Array (Option Value)} {oc10 kV10 dc10 pm10 cd10 ct10 : Value}
    {f11 : Addr} {od11 an11 : Option Addr} {sl11 : Array (Option Value)} {oc11 kV11 dc11 pm11 cd11 ct11 : Value}
    {f12 : Addr} {od12 an12 : Option Addr} {sl12 : Array (Option Value)} {oc12 kV12 dc12 pm12 cd12 ct12 : Value}
    {f13 : Addr} {od13 an13 : Option Addr} {sl13 : Array (Option Value)} {oc13 kV13 dc13 pm13 cd13 ct13 : Value}
    {f14 : Addr} {od14 an14 : Option Addr} {sl14 : Array (Option Value)} {oc14 kV14 dc14 pm14 cd14 ct14 : Value}
    {f15 : Addr} {od15 an15 : Option Addr} {sl15 : Array (Option Value)} {oc15 kV15 dc15 pm15 cd15 ct15 : Value}
    {f16 : Addr} {od16 an16 : Option Addr} {sl16 : Array (Option Value)} {oc16 kV16 dc16 pm16 cd16 ct16 : Value}
    {f17 : Addr} {od17 an17 : Option Addr} {sl17 : Array (Option Value)} {oc17 kV17 dc17 pm17 cd17 ct17 : Value}
    {f18 : Addr} {od18 an18 : Option Addr} {sl18 : Array (Option Value)} {oc18 kV18 dc18 pm18 cd18 ct18 : Value}
    {CBk : Addr}
    {fbki : Addr} {odbki anbki : Option Addr} {slbki : Array (Option Value)} {ocbki kVbki dcbki pmbki cdbki ctbki : Value} {Tbki : Addr} {ocTbki : Value} {odTbki : Option Addr} {slTbki : Array (Option Value)} {nTbki : Nat} {tkbki_0 : Tok}
    {fbke : Addr} {odbke anbke : Option Addr} {slbke : Array (Option Value)} {ocbke kVbke dcbke pmbke cdbke ctbke : Value} {Tbke : Addr} {ocTbke : Value} {odTbke : Option Addr} {slTbke : Array (Option Value)} {nTbke : Nat} {tkbke_0 : Tok}
    {fbkp : Addr} {odbkp anbkp : Option Addr} {slbkp : Array (Option Value)} {ocbkp kVbkp dcbkp pmbkp cdbkp ctbkp : Value}
    {fbks : Addr} {odbks anbks : Option Addr} {slbks : Array (Option Value)} {ocbks kVbks dcbks pmbks cdbks ctbks : Value}
    {fbkc : Addr} {odbkc anbkc : Option Addr} {slbkc : Array (Option Value)} {ocbkc kVbkc dcbkc pmbkc cdbkc ctbkc : Value}
    {fbku : Addr} {odbku anbku : Option Addr} {slbku : Array (Option Value)} {ocbku kVbku dcbku pmbku cdbku ctbku : Value}
    {fbkn : Addr} {odbkn anbkn : Option Addr} {slbkn : Array (Option Value)} {ocbkn kVbkn dcbkn pmbkn cdbkn ctbkn : Value}
    {fbkt : Addr} {odbkt anbkt : Option Addr} {slbkt : Array (Option Value)} {ocbkt kVbkt dcbkt pmbkt cdbkt ctbkt : Value}
    {fbka : Addr} {odbka anbka : Option Addr} {slbka : Array (Option Value)} {ocbka kVbka dcbka pmbka cdbka ctbka : Value}
    {fbkw : Addr} {odbkw anbkw : Option Addr} {slbkw : Array (Option Value)} {ocbkw kVbkw dcbkw pmbkw cdbkw ctbkw : Value}
    {fbkl : Addr} {odbkl anbkl : Option Addr} {slbkl : Array (Option Value)} {ocbkl kVbkl dcbkl pmbkl cdbkl ctbkl : Value}
    {fbkq : Addr} {odbkq anbkq : Option Addr} {slbkq : Array (Option Value)} {ocbkq kVbkq dcbkq pmbkq cdbkq ctbkq : Value}
    {CS fIS cdaS ccS : Addr} {ocIS kVIS dcIS pmIS ctIS clcS cclS : Value} {odIS anIS cdcS cddS : Option Addr} {slIS slcS ccsS : Array (Option Value)} {wsS : Array Value} {fileS : Str} {tfS : Tok} {cdNS : ClassData}
    (a1 : PySem.W.nsIn K mainGlobals "_law_folded" = some (some (.ref f1))) (l1 : K.lookup f1 = some ⟨oc1, od1, .func (PySem.W.fnOf "_law_folded" "_law_folded" (defArgs s__law_folded) (defBody s__law_folded) (defScope s__law_folded) .none kV1 dc1 pm1 an1 cd1 ct1), sl1⟩) (c1 : PySem.W.codeIn K cd1 "_law_folded" = true) (k1 : PySem.W.keepIn K (.ref f1) = true)
    (a2 : PySem.W.nsIn K mainGlobals "_law_draws" = some (some (.ref f2))) (l2 : K.lookup f2 = some ⟨oc2, od2, .func (PySem.W.fnOf "_law_draws" "_law_draws" (defArgs s__law_draws) (defBody s__law_draws) (defScope s__law_draws) .none kV2 dc2 pm2 an2 cd2 ct2), sl2⟩) (c2 : PySem.W.codeIn K cd2 "_law_draws" = true) (k2 : PySem.W.keepIn K (.ref f2) = true)
    (a3 : PySem.W.nsIn K mainGlobals "_law_take" = some (some (.ref f3))) (l3 : K.lookup f3 = some ⟨oc3, od3, .func (PySem.W.fnOf "_law_take" "_law_take" (defArgs s__law_take) (defBody s__law_take) (defScope s__law_take) .none kV3 dc3 pm3 an3 cd3 ct3), sl3⟩) (c3 : PySem.W.codeIn K cd3 "_law_take" = true) (k3 : PySem.W.keepIn K (.ref f3) = true)
    (a4 : PySem.W.nsIn K mainGlobals "_law_pick" = some (some (.ref f4))) (l4 : K.lookup f4 = some ⟨oc4, od4, .func (PySem.W.fnOf "_law_pick" "_law_pick" (defArgs s__law_pick) (defBody s__law_pick) (defScope s__law_pick) .none kV4 dc4 pm4 an4 cd4 ct4), sl4⟩) (c4 : PySem.W.codeIn K cd4 "_law_pick" = true) (k4 : PySem.W.keepIn K (.ref f4) = true)
    (a5 : PySem.W.nsIn K mainGlobals "_law_some_names" = some (some (.ref f5))) (l5 : K.lookup f5 = some ⟨oc5, od5, .func (PySem.W.fnOf "_law_some_names" "_law_some_names" (defArgs s__law_some_names) (defBody s__law_some_names) (defScope s__law_some_names) .none kV5 dc5 pm5 an5 cd5 ct5), sl5⟩) (c5 : PySem.W.codeIn K cd5 "_law_some_names" = true) (k5 : PySem.W.keepIn K (.ref f5) = true)
    (a6 : PySem.W.nsIn K mainGlobals "_law_same" = some (some (.ref f6))) (l6 : K.lookup f6 = some ⟨oc6, od6, .func (PySem.W.fnOf "_law_same" "_law_same" (defArgs s__law_same) (defBody s__law_same) (defScope s__law_same) .none kV6 dc6 pm6 an6 cd6 ct6), sl6⟩) (c6 : PySem.W.codeIn K cd6 "_law_same" = true) (k6 : PySem.W.keepIn K (.ref f6) = true)
    (a7 : PySem.W.nsIn K mainGlobals "_law_some_washes" = some (some (.ref f7))) (l7 : K.lookup f7 = some ⟨oc7, od7, .func (PySem.W.fnOf "_law_some_washes" "_law_some_washes" (defArgs s__law_some_washes) (defBody s__law_some_washes) (defScope s__law_some_washes) .none kV7 dc7 pm7 an7 cd7 ct7), sl7⟩) (c7 : PySem.W.codeIn K cd7 "_law_some_washes" = true) (k7 : PySem.W.keepIn K (.ref f7) = true)
    (a8 : PySem.W.nsIn K mainGlobals "_law_a_hall" = some (some (.ref f8))) (l8 : K.lookup f8 = some ⟨oc8, od8, .func (PySem.W.fnOf "_law_a_hall" "_law_a_hall" (defArgs s__law_a_hall) (defBody s__law_a_hall) (defScope s__law_a_hall) .none kV8 dc8 pm8 an8 cd8 ct8), sl8⟩) (c8 : PySem.W.codeIn K cd8 "_law_a_hall" = true) (k8 : PySem.W.keepIn K (.ref f8) = true)
    (a9 : PySem.W.nsIn K mainGlobals "_law_a_deed" = some (some (.ref f9))) (l9 : K.lookup f9 = some ⟨oc9, od9, .func (PySem.W.fnOf "_law_a_deed" "_law_a_deed" (defArgs s__law_a_deed) (defBody s__law_a_deed) (defScope s__law_a_deed) .none kV9 dc9 pm9 an9 cd9 ct9), sl9⟩) (c9 : PySem.W.codeIn K cd9 "_law_a_deed" = true) (k9 : PySem.W.keepIn K (.ref f9) = true)
    (a10 : PySem.W.nsIn K mainGlobals "_law_a_book" = some (some (.ref f10))) (l10 : K.lookup f10 = some ⟨oc10, od10, .func (PySem.W.fnOf "_law_a_book" "_law_a_book" (defArgs s__law_a_book) (defBody s__law_a_book) (defScope s__law_a_book) .none kV10 dc10 pm10 an10 cd10 ct10), sl10⟩) (c10 : PySem.W.codeIn K cd10 "_law_a_book" = true) (k10 : PySem.W.keepIn K (.ref f10) = true)
    (a11 : PySem.W.nsIn K mainGlobals "_law_told_once" = some (some (.ref f11))) (l11 : K.lookup f11 = some ⟨oc11, od11, .func (PySem.W.fnOf "_law_told_once" "_law_told_once" (defArgs s__law_told_once) (defBody s__law_told_once) (defScope s__law_told_once) .none kV11 dc11 pm11 an11 cd11 ct11), sl11⟩) (c11 : PySem.W.codeIn K cd11 "_law_told_once" = true) (k11 : PySem.W.keepIn K (.ref f11) = true)
    (a12 : PySem.W.nsIn K mainGlobals "_law_row_right" = some (some (.ref f12))) (l12 : K.lookup f12 = some ⟨oc12, od12, .func (PySem.W.fnOf "_law_row_right" "_law_row_right" (defArgs s__law_row_right) (defBody s__law_row_right) (defScope s__law_row_right) .none kV12 dc12 pm12 an12 cd12 ct12), sl12⟩) (c12 : PySem.W.codeIn K cd12 "_law_row_right" = true) (k12 : PySem.W.keepIn K (.ref f12) = true)
    (a13 : PySem.W.nsIn K mainGlobals "_law_own_row_right" = some (some (.ref f13))) (l13 : K.lookup f13 = some ⟨oc13, od13, .func (PySem.W.fnOf "_law_own_row_right" "_law_own_row_right" (defArgs s__law_own_row_right) (defBody s__law_own_row_right) (defScope s__law_own_row_right) .none kV13 dc13 pm13 an13 cd13 ct13), sl13⟩) (c13 : PySem.W.codeIn K cd13 "_law_own_row_right" = true) (k13 : PySem.W.keepIn K (.ref f13) = true)
    (a14 : PySem.W.nsIn K mainGlobals "_law_apart" = some (some (.ref f14))) (l14 : K.lookup f14 = some ⟨oc14, od14, .func (PySem.W.fnOf "_law_apart" "_law_apart" (defArgs s__law_apart) (defBody s__law_apart) (defScope s__law_apart) .none kV14 dc14 pm14 an14 cd14 ct14), sl14⟩) (c14 : PySem.W.codeIn K cd14 "_law_apart" = true) (k14 : PySem.W.keepIn K (.ref f14) = true)
    (a15 : PySem.W.nsIn K mainGlobals "_law_undone" = some (some (.ref f15))) (l15 : K.lookup f15 = some ⟨oc15, od15, .func (PySem.W.fnOf "_law_undone" "_law_undone" (defArgs s__law_undone) (defBody s__law_undone) (defScope s__law_undone) .none kV15 dc15 pm15 an15 cd15 ct15), sl15⟩) (c15 : PySem.W.codeIn K cd15 "_law_undone" = true) (k15 : PySem.W.keepIn K (.ref f15) = true)
    (a16 : PySem.W.nsIn K mainGlobals "_law_halls" = some (some (.ref f16))) (l16 : K.lookup f16 = some ⟨oc16, od16, .func (PySem.W.fnOf "_law_halls" "_law_halls" (defArgs s__law_halls) (defBody s__law_halls) (defScope s__law_halls) .none kV16 dc16 pm16 an16 cd16 ct16), sl16⟩) (c16 : PySem.W.codeIn K cd16 "_law_halls" = true) (k16 : PySem.W.keepIn K (.ref f16) = true)
    (a17 : PySem.W.nsIn K mainGlobals "_law_equal_right" = some (some (.ref f17))) (l17 : K.lookup f17 = some ⟨oc17, od17, .func (PySem.W.fnOf "_law_equal_right" "_law_equal_right" (defArgs s__law_equal_right) (defBody s__law_equal_right) (defScope s__law_equal_right) .none kV17 dc17 pm17 an17 cd17 ct17), sl17⟩) (c17 : PySem.W.codeIn K cd17 "_law_equal_right" = true) (k17 : PySem.W.keepIn K (.ref f17) = true)
    (a18 : PySem.W.nsIn K mainGlobals "law" = some (some (.ref f18))) (l18 : K.lookup f18 = some ⟨oc18, od18, .func (PySem.W.fnOf "law" "law" (defArgs s_law) (defBody s_law) (defScope s_law) .none kV18 dc18 pm18 an18 cd18 ct18), sl18⟩) (c18 : PySem.W.codeIn K cd18 "law" = true) (k18 : PySem.W.keepIn K (.ref f18) = true)
    (z1 : PySem.W.nsIn K mainGlobals "len" = some none)
    (z2 : PySem.W.nsIn K mainGlobals "divmod" = some none)
    (z3 : PySem.W.nsIn K mainGlobals "range" = some none)
    (z4 : PySem.W.nsIn K mainGlobals "sum" = some none)
    (z5 : PySem.W.nsIn K mainGlobals "all" = some none)
    (z6 : PySem.W.nsIn K mainGlobals "any" = some none)
    (z7 : PySem.W.nsIn K mainGlobals "isinstance" = some none)
    (z8 : PySem.W.nsIn K mainGlobals "str" = some none)
    (z9 : PySem.W.nsIn K mainGlobals "int" = some none)
    (z10 : PySem.W.nsIn K mainGlobals "list" = some none)
    (z11 : PySem.W.nsIn K mainGlobals "tuple" = some none)
    (z12 : PySem.W.nsIn K mainGlobals "bool" = some none)
    (z13 : PySem.W.nsIn K mainGlobals "zip" = some none)
    (z14 : PySem.W.nsIn K mainGlobals "set" = some none)
    (z15 : PySem.W.nsIn K mainGlobals "sorted" = some none)
    (z16 : PySem.W.nsIn K mainGlobals "enumerate" = some none)
    (z17 : PySem.W.nsIn K mainGlobals "repr" = some none)
    (z18 : PySem.W.nsIn K mainGlobals "min" = some none)
    (z19 : PySem.W.nsIn K mainGlobals "max" = some none)
    (z20 : PySem.W.nsIn K mainGlobals "abs" = some none)
    (qaBk : PySem.W.nsIn K mainGlobals "Book" = some (some (.ref CBk)))
    (abki : PySem.W.findIn K (.ref CBk) "__init__" = some (some (.ref fbki)))
    (ibki : PySem.W.isFn K (.ref fbki) = true)
    (lbki : K.lookup fbki = some ⟨ocbki, odbki, .func (PySem.W.fnOf "__init__" "Book.__init__" (defArgs s_bki) (defBody s_bki) (defScope s_bki) (.ref Tbki) kVbki dcbki pmbki anbki cdbki ctbki), slbki⟩)
    (cbki : PySem.W.codeIn K cdbki "Book.__init__" = true)
    (kbki : PySem.W.keepIn K (.ref fbki) = true)
    (tbki : K.lookup Tbki = some ⟨ocTbki, odTbki, .seq #[.int 12 tkbki_0] nTbki, slTbki⟩)
    (abke : PySem.W.findIn K (.ref CBk) "enter" = some (some (.ref fbke)))
    (ibke : PySem.W.isFn K (.ref fbke) = true)
    (lbke : K.lookup fbke = some ⟨ocbke, odbke, .func (PySem.W.fnOf "enter" "Book.enter" (defArgs s_bke) (defBody s_bke) (defScope s_bke) (.ref Tbke) kVbke dcbke pmbke anbke cdbke ctbke), slbke⟩)
    (cbke : PySem.W.codeIn K cdbke "Book.enter" = true)
    (kbke : PySem.W.keepIn K (.ref fbke) = true)
    (tbke : K.lookup Tbke = some ⟨ocTbke, odTbke, .seq #[.int 0 tkbke_0] nTbke, slTbke⟩)
    (abkp : PySem.W.findIn K (.ref CBk) "put_right" = some (some (.ref fbkp)))
    (ibkp : PySem.W.isFn K (.ref fbkp) = true)
    (lbkp : K.lookup fbkp = some ⟨ocbkp, odbkp, .func (PySem.W.fnOf "put_right" "Book.put_right" (defArgs s_bkp) (defBody s_bkp) (defScope s_bkp) .none kVbkp dcbkp pmbkp anbkp cdbkp ctbkp), slbkp⟩)
    (cbkp : PySem.W.codeIn K cdbkp "Book.put_right" = true)
    (kbkp : PySem.W.keepIn K (.ref fbkp) = true)
    (abks : PySem.W.findIn K (.ref CBk) "strike" = some (some (.ref fbks)))
    (ibks : PySem.W.isFn K (.ref fbks) = true)
    (lbks : K.lookup fbks = some ⟨ocbks, odbks, .func (PySem.W.fnOf "strike" "Book.strike" (defArgs s_bks) (defBody s_bks) (defScope s_bks) .none kVbks dcbks pmbks anbks cdbks ctbks), slbks⟩)
    (cbks : PySem.W.codeIn K cdbks "Book.strike" = true)
    (kbks : PySem.W.keepIn K (.ref fbks) = true)
    (abkc : PySem.W.findIn K (.ref CBk) "check" = some (some (.ref fbkc)))
    (ibkc : PySem.W.isFn K (.ref fbkc) = true)
    (lbkc : K.lookup fbkc = some ⟨ocbkc, odbkc, .func (PySem.W.fnOf "check" "Book.check" (defArgs s_bkc) (defBody s_bkc) (defScope s_bkc) .none kVbkc dcbkc pmbkc anbkc cdbkc ctbkc), slbkc⟩)
    (cbkc : PySem.W.codeIn K cdbkc "Book.check" = true)
    (kbkc : PySem.W.keepIn K (.ref fbkc) = true)
    (abku : PySem.W.findIn K (.ref CBk) "undo" = some (some (.ref fbku)))
    (ibku : PySem.W.isFn K (.ref fbku) = true)
    (lbku : K.lookup fbku = some ⟨ocbku, odbku, .func (PySem.W.fnOf "undo" "Book.undo" (defArgs s_bku) (defBody s_bku) (defScope s_bku) .none kVbku dcbku pmbku anbku cdbku ctbku), slbku⟩)
    (cbku : PySem.W.codeIn K cdbku "Book.undo" = true)
    (kbku : PySem.W.keepIn K (.ref fbku) = true)
    (abkn : PySem.W.findIn K (.ref CBk) "entries" = some (some (.ref fbkn)))
    (ibkn : PySem.W.isFn K (.ref fbkn) = true)
    (lbkn : K.lookup fbkn = some ⟨ocbkn, odbkn, .func (PySem.W.fnOf "entries" "Book.entries" (defArgs s_bkn) (defBody s_bkn) (defScope s_bkn) .none kVbkn dcbkn pmbkn anbkn cdbkn ctbkn), slbkn⟩)
    (cbkn : PySem.W.codeIn K cdbkn "Book.entries" = true)
    (kbkn : PySem.W.keepIn K (.ref fbkn) = true)
    (abkt : PySem.W.findIn K (.ref CBk) "told_times" = some (some (.ref fbkt)))
    (ibkt : PySem.W.isFn K (.ref fbkt) = true)
    (lbkt : K.lookup fbkt = some ⟨ocbkt, odbkt, .func (PySem.W.fnOf "told_times" "Book.told_times" (defArgs s_bkt) (defBody s_bkt) (defScope s_bkt) .none kVbkt dcbkt pmbkt anbkt cdbkt ctbkt), slbkt⟩)
    (cbkt : PySem.W.codeIn K cdbkt "Book.told_times" = true)
    (kbkt : PySem.W.keepIn K (.ref fbkt) = true)
    (abka : PySem.W.findIn K (.ref CBk) "as_told" = some (some (.ref fbka)))
    (ibka : PySem.W.isFn K (.ref fbka) = true)
    (lbka : K.lookup fbka = some ⟨ocbka, odbka, .func (PySem.W.fnOf "as_told" "Book.as_told" (defArgs s_bka) (defBody s_bka) (defScope s_bka) .none kVbka dcbka pmbka anbka cdbka ctbka), slbka⟩)
    (cbka : PySem.W.codeIn K cdbka "Book.as_told" = true)
    (kbka : PySem.W.keepIn K (.ref fbka) = true)
    (abkw : PySem.W.findIn K (.ref CBk) "twin" = some (some (.ref fbkw)))
    (ibkw : PySem.W.isFn K (.ref fbkw) = true)
    (lbkw : K.lookup fbkw = some ⟨ocbkw, odbkw, .func (PySem.W.fnOf "twin" "Book.twin" (defArgs s_bkw) (defBody s_bkw) (defScope s_bkw) .none kVbkw dcbkw pmbkw anbkw cdbkw ctbkw), slbkw⟩)
    (cbkw : PySem.W.codeIn K cdbkw "Book.twin" = true)
    (kbkw : PySem.W.keepIn K (.ref fbkw) = true)
    (abkl : PySem.W.findIn K (.ref CBk) "__len__" = some (some (.ref fbkl)))
    (ibkl : PySem.W.isFn K (.ref fbkl) = true)
    (lbkl : K.lookup fbkl = some ⟨ocbkl, odbkl, .func (PySem.W.fnOf "__len__" "Book.__len__" (defArgs s_bkl) (defBody s_bkl) (defScope s_bkl) .none kVbkl dcbkl pmbkl anbkl cdbkl ctbkl), slbkl⟩)
    (cbkl : PySem.W.codeIn K cdbkl "Book.__len__" = true)
    (kbkl : PySem.W.keepIn K (.ref fbkl) = true)
    (abkq : PySem.W.findIn K (.ref CBk) "__eq__" = some (some (.ref fbkq)))
    (ibkq : PySem.W.isFn K (.ref fbkq) = true)
    (lbkq : K.lookup fbkq = some ⟨ocbkq, odbkq, .func (PySem.W.fnOf "__eq__" "Book.__eq__" (defArgs s_bkq) (defBody s_bkq) (defScope s_bkq) .none kVbkq dcbkq pmbkq anbkq cdbkq ctbkq), slbkq⟩)
    (cbkq : PySem.W.codeIn K cdbkq "Book.__eq__" = true)
    (kbkq : PySem.W.keepIn K (.ref fbkq) = true)
    (pgBk : PySem.W.plainGet K CBk Str.empty = true)
    (hdBk : PySem.W.hasDictIn K CBk = true)
    (poBk : PySem.W.plainOver K CBk = true)
    (saBk : PySem.W.findIn K (.ref CBk) "__setattr__" = some (some (.builtin "object.__setattr__")))
    (mkBk : PySem.W.makesIn K CBk = true)
    (kcBk : PySem.W.keepIn K (.ref CBk) = true)
    (nBk0 : PySem.W.findIn K (.ref CBk) "palette" = some none)
    (nBk1 : PySem.W.findIn K (.ref CBk) "kinds" = some none)
    (nBk2 : PySem.W.findIn K (.ref CBk) "teams" = some none)
    (nBk3 : PySem.W.findIn K (.ref CBk) "pots" = some none)
    (nBk4 : PySem.W.findIn K (.ref CBk) "slots" = some none)
    (nBk5 : PySem.W.findIn K (.ref CBk) "told" = some none)
    (icBk : PySem.W.findIn K (.ref CBk) "__class__" = some (some (.builtin "object.__class__")))
    (isBk : PySem.W.specialIn K (.builtin "object.__class__") "__get__" = some (some (.builtin "getset_descriptor.__get__")))
    (ikBk : PySem.W.takesIn K (.builtin "object.__class__") = some true)
    (imBk : PySem.W.mroIn K CBk (.type "object") = some true)
    (inBk : PySem.W.findIn K (.ref CBk) "__ne__" = some (some (.builtin "object.__ne__")))
    (s4 : PySem.W.nsIn K cStatics "thirdparty.any" = some none)
    (s5 : (l.prog.main.scope.names.lookup ("super" : Str)).isSome = false)
    (hS : PySem.W.nsIn K mainGlobals "super" = some none)
    (e6 : PySem.W.specialIn K (.builtin "object.__class__") "__get__" = some (some (.builtin "getset_descriptor.__get__")))
    (e7 : PySem.W.takesIn K (.builtin "object.__class__") = some true)
    (hCS : PySem.W.nsIn K mainGlobals "NoSuch" = some (some (.ref CS)))
    (xIS : PySem.W.excInitIn K CS leTail "LookupError.__new__" = true)
    (x1S : PySem.W.findIn K (.ref CS) "__setattr__" = some (some (.builtin "object.__setattr__")))
    (bCS : PySem.W.subIn K (.ref CS) (.type "BaseException") = some true)
    (tCS : PySem.W.typeIn K (.ref CS) = some (.type "type"))
    (kCS : PySem.W.keepIn K (.ref CS) = true)
    (xcS : PySem.W.clsIn K CS = some cdNS)
    (xmS : cdNS.mro = .ref CS :: leTail)
    (sBS : PySem.W.subIn K (.ref CS) (.type "LookupError") = some true)
    (s3S : PySem.W.mroIn K CS (.ref CS) = some true)
    (iNS : PySem.W.findIn K (.ref CS) "__init__" = some (some (.ref fIS)))
    (tIS : PySem.W.typeIn K (.ref fIS) = some (.type "function"))
    (f0S : PySem.W.findIn K (.ref CS) "what" = some none)
    (f1S : PySem.W.findIn K (.ref CS) "name" = some none)
    (lIS : K.lookup fIS = some ⟨ocIS, odIS, .func (PySem.W.ksFn "__init__" "NoSuch.__init__" (defArgs s_NoSuch) (defBody s_NoSuch) (defScope s_NoSuch) .none kVIS dcIS pmIS anIS (.ref cdaS) ctIS ccS), slIS⟩)
    (cIS : PySem.W.codeIn K (.ref cdaS) "NoSuch.__init__" = true)
    (lcS : K.lookup ccS = some ⟨clcS, cdcS, .cell (some (.ref CS)), slcS⟩)
    (ldS : K.lookup cdaS = some ⟨cclS, cddS, .fields wsS, ccsS⟩)
    (w2S : wsS[2]? = some (.str fileS tfS))
    (flS : ((l.prog.main.file : Str) == fileS) = true)
    (e1S : PySem.W.findIn K (.ref CS) "__getattribute__" = some (some (.builtin "BaseException.__getattribute__")))
    (e2S : PySem.W.findIn K (.ref CS) "__getattr__" = some none)
    (e4S : PySem.W.hasDictIn K CS = true)
    (e5S : PySem.W.findIn K (.ref CS) "__class__" = some (some (.builtin "object.__class__")))
    (e8S : PySem.W.mroIn K CS (.type "object") = some true)
    (sCS : PySem.W.subIn K (.ref CS) (.ref CS) = some true)
    (tyBk : PySem.W.typeIn K (.ref CBk) = some (.type "type"))
    (skNoneType : PySem.W.subIn K (.type "NoneType") (.ref CBk) = some false)
    (skint : PySem.W.subIn K (.type "int") (.ref CBk) = some false)
    (skstr : PySem.W.subIn K (.type "str") (.ref CBk) = some false)
    (sklist : PySem.W.subIn K (.type "list") (.ref CBk) = some false)
    (sktuple : PySem.W.subIn K (.type "tuple") (.ref CBk) = some false)
    : ∃ fd : FuncData, (∀ (s : Shared) (v : Value), BindsTo s fd ⟨[v], []⟩ [("_law_script", v)]) ∧ ∀ base : Heap, K.In base → base.Ns mainGlobals mg → FnOk l.prog w K mg base CX0 9 fa fd ["_law_script"] (spLaw K) := by
  have e := hfa.symm.trans (PySem.W.mg_of X G a18)
  cases e
  have T : Txt mg := ⟨PySem.W.mg_none_of X G z1, PySem.W.mg_none_of X G z2, PySem.W.mg_none_of X G z3, PySem.W.mg_none_of X G z4, PySem.W.mg_none_of X G z5, PySem.W.mg_none_of X G z6, PySem.W.mg_none_of X G z7, PySem.W.mg_none_of X G z8, PySem.W.mg_none_of X G z9, PySem.W.mg_none_of X G z10, PySem.W.mg_none_of X G z11, PySem.W.mg_none_of X G z12, PySem.W.mg_none_of X G z13, PySem.W.mg_none_of X G z14, PySem.W.mg_none_of X G z15, PySem.W.mg_none_of X G z16, PySem.W.mg_none_of X G z17, PySem.W.mg_none_of X G z18, PySem.W.mg_none_of X G z19, PySem.W.mg_none_of X G z20⟩
  have F1 := fun_mk (st := s__law_folded) l1 c1 k1
  have b1 := F1.binds (ps := ["_law_script", "_law_many"]) fun _ _ _ _ _ _ us hl => match us, hl with | [_, _], _ => rfl
  have g1 := PySem.W.mg_of X G a1
  have F2 := fun_mk (st := s__law_draws) l2 c2 k2
  have b2 := F2.binds (ps := ["_law_script", "_law_k"]) fun _ _ _ _ _ _ us hl => match us, hl with | [_, _], _ => rfl
  have g2 := PySem.W.mg_of X G a2
  have F3 := fun_mk (st := s__law_take) l3 c3 k3
  have b3 := F3.binds (ps := ["_law_box", "_law_many"]) fun _ _ _ _ _ _ us hl => match us, hl with | [_, _], _ => rfl
  have g3 := PySem.W.mg_of X G a3
  have F4 := fun_mk (st := s__law_pick) l4 c4 k4
  have b4 := F4.binds (ps := ["_law_box", "_law_some"]) fun _ _ _ _ _ _ us hl => match us, hl with | [_, _], _ => rfl
  have g4 := PySem.W.mg_of X G a4
  have F5 := fun_mk (st := s__law_some_names) l5 c5 k5
  have b5 := F5.binds (ps := ["_law_box", "_law_many"]) fun _ _ _ _ _ _ us hl => match us, hl with | [_, _], _ => rfl
  have g5 := PySem.W.mg_of X G a5
  have F6 := fun_mk (st := s__law_same) l6 c6 k6
  have b6 := F6.binds (ps := ["_law_found", "_law_due"]) fun _ _ _ _ _ _ us hl => match us, hl with | [_, _], _ => rfl
  have g6 := PySem.W.mg_of X G a6
  have F7 := fun_mk (st := s__law_some_washes) l7 c7 k7
  have b7 := F7.binds (ps := ["_law_box", "_law_names"]) fun _ _ _ _ _ _ us hl => match us, hl with | [_, _], _ => rfl
  have g7 := PySem.W.mg_of X G a7
  have F8 := fun_mk (st := s__law_a_hall) l8 c8 k8
  have b8 := F8.binds (ps := ["_law_box", "_law_great"]) fun _ _ _ _ _ _ us hl => match us, hl with | [_, _], _ => rfl
  have g8 := PySem.W.mg_of X G a8
  have F9 := fun_mk (st := s__law_a_deed) l9 c9 k9
  have b9 := F9.binds (ps := ["_law_box", "_law_hall"]) fun _ _ _ _ _ _ us hl => match us, hl with | [_, _], _ => rfl
  have g9 := PySem.W.mg_of X G a9
  have F10 := fun_mk (st := s__law_a_book) l10 c10 k10
  have b10 := F10.binds (ps := ["_law_hall"]) fun _ _ _ _ _ _ us hl => match us, hl with | [_], _ => rfl
  have g10 := PySem.W.mg_of X G a10
  have F11 := fun_mk (st := s__law_told_once) l11 c11 k11
  have b11 := F11.binds (ps := ["_law_box", "_law_hall", "_law_book", "_law_turns"]) fun _ _ _ _ _ _ us hl => match us, hl with | [_, _, _, _], _ => rfl
  have g11 := PySem.W.mg_of X G a11
  have F12 := fun_mk (st := s__law_row_right) l12 c12 k12
  have b12 := F12.binds (ps := ["_law_book", "_law_turns"]) fun _ _ _ _ _ _ us hl => match us, hl with | [_, _], _ => rfl
  have g12 := PySem.W.mg_of X G a12
  have F13 := fun_mk (st := s__law_own_row_right) l13 c13 k13
  have b13 := F13.binds (ps := ["_law_box", "_law_hall", "_law_book", "_law_turns"]) fun _ _ _ _ _ _ us hl => match us, hl with | [_, _, _, _], _ => rfl
  have g13 := PySem.W.mg_of X G a13
  have F14 := fun_mk (st := s__law_apart) l14 c14 k14
  have b14 := F14.binds (ps := ["_law_box", "_law_hall", "_law_books"]) fun _ _ _ _ _ _ us hl => match us, hl with | [_, _, _], _ => rfl
  have g14 := PySem.W.mg_of X G a14
  have F15 := fun_mk (st := s__law_undone) l15 c15 k15
  have b15 := F15.binds (ps := ["_law_book", "_law_stands"]) fun _ _ _ _ _ _ us hl => match us, hl with | [_, _], _ => rfl
  have g15 := PySem.W.mg_of X G a15
  have F16 := fun_mk (st := s__law_halls) l16 c16 k16
  have b16 := F16.binds (ps := ["_law_hall"]) fun _ _ _ _ _ _ us hl => match us, hl with | [_], _ => rfl
  have g16 := PySem.W.mg_of X G a16
  have F17 := fun_mk (st := s__law_equal_right) l17 c17 k17
  have b17 := F17.binds (ps := ["_law_box", "_law_hall", "_law_book"]) fun _ _ _ _ _ _ us hl => match us, hl with | [_, _, _], _ => rfl
  have g17 := PySem.W.mg_of X G a17
  have F18 := fun_mk (st := s_law) l18 c18 k18
  refine ⟨PySem.W.fnOf "law" "law" (defArgs s_law) (defBody s_law) (defScope s_law) .none kV18 dc18 pm18 an18 cd18 ct18, fun s v => .of_eq rfl, fun base _ _ => ?_⟩
  have Fbki : FunVQ K "__init__" "Book.__init__" s_bki [.int 12] fbki _ := ⟨⟨_, _, _, _, _, _, _, _, _, _, rfl, lbki, cbki, .inr ⟨(by intro z; cases z), Tbki, _, [_], _, rfl, tbki, rfl, .cons (⟨_, rfl⟩) (.nil)⟩, .inl rfl⟩, kbki⟩
  obtain ⟨dsbki_0, vbki_0, bbki_0⟩ := FunD.binds1 (ps := ["self", "palette", "kinds", "teams", "pots", "slots"]) Fbki 6 1 (by intro z; cases z) rfl (fun T kV doc pm an cdv ct us its hu hi => match us, hu, its, hi with | [_, _, _, _, _, _], _, [_], _ => ⟨_, rfl, rfl⟩)
  obtain ⟨dsbki_1, vbki_1, bbki_1⟩ := FunD.binds1 (ps := ["self", "palette", "kinds", "teams", "pots", "slots"]) Fbki 5 0 (by intro z; cases z) rfl (fun T kV doc pm an cdv ct us its hu hi => match us, hu, its, hi with | [_, _, _, _, _], _, [_], _ => ⟨_, rfl, rfl⟩)
  have Fbke : FunVQ K "enter" "Book.enter" s_bke [.int 0] fbke _ := ⟨⟨_, _, _, _, _, _, _, _, _, _, rfl, lbke, cbke, .inr ⟨(by intro z; cases z), Tbke, _, [_], _, rfl, tbke, rfl, .cons (⟨_, rfl⟩) (.nil)⟩, .inl rfl⟩, kbke⟩
  obtain ⟨dsbke_0, vbke_0, bbke_0⟩ := FunD.binds1 (ps := ["self", "deed", "hour"]) Fbke 3 1 (by intro z; cases z) rfl (fun T kV doc pm an cdv ct us its hu hi => match us, hu, its, hi with | [_, _, _], _, [_], _ => ⟨_, rfl, rfl⟩)
  obtain ⟨dsbke_1, vbke_1, bbke_1⟩ := FunD.binds1 (ps := ["self", "deed", "hour"]) Fbke 2 0 (by intro z; cases z) rfl (fun T kV doc pm an cdv ct us its hu hi => match us, hu, its, hi with | [_, _], _, [_], _ => ⟨_, rfl, rfl⟩)
  have Fbkp := fun_mk (st := s_bkp) lbkp cbkp kbkp
  have bbkp := Fbkp.binds (ps := ["self", "number", "deed", "hour"]) fun _ _ _ _ _ _ us hl => match us, hl with | [_, _, _, _], _ => rfl
  have Fbks := fun_mk (st := s_bks) lbks cbks kbks
  have bbks := Fbks.binds (ps := ["self", "number"]) fun _ _ _ _ _ _ us hl => match us, hl with | [_, _], _ => rfl
  have Fbkc := fun_mk (st := s_bkc) lbkc cbkc kbkc
  have bbkc := Fbkc.binds (ps := ["self", "number"]) fun _ _ _ _ _ _ us hl => match us, hl with | [_, _], _ => rfl
  have Fbku := fun_mk (st := s_bku) lbku cbku kbku
  have bbku := Fbku.binds (ps := ["self"]) fun _ _ _ _ _ _ us hl => match us, hl with | [_], _ => rfl
  have Fbkn := fun_mk (st := s_bkn) lbkn cbkn kbkn
  have bbkn := Fbkn.binds (ps := ["self"]) fun _ _ _ _ _ _ us hl => match us, hl with | [_], _ => rfl
  have Fbkt := fun_mk (st := s_bkt) lbkt cbkt kbkt
  have bbkt := Fbkt.binds (ps := ["self"]) fun _ _ _ _ _ _ us hl => match us, hl with | [_], _ => rfl
  have Fbka := fun_mk (st := s_bka) lbka cbka kbka
  have bbka := Fbka.binds (ps := ["self", "many"]) fun _ _ _ _ _ _ us hl => match us, hl with | [_, _], _ => rfl
  have Fbkw := fun_mk (st := s_bkw) lbkw cbkw kbkw
  have bbkw := Fbkw.binds (ps := ["self"]) fun _ _ _ _ _ _ us hl => match us, hl with | [_], _ => rfl
  have Fbkl := fun_mk (st := s_bkl) lbkl cbkl kbkl
  have bbkl := Fbkl.binds (ps := ["self"]) fun _ _ _ _ _ _ us hl => match us, hl with | [_], _ => rfl
  have Fbkq := fun_mk (st := s_bkq) lbkq cbkq kbkq
  have bbkq := Fbkq.binds (ps := ["self", "other"]) fun _ _ _ _ _ _ us hl => match us, hl with | [_, _], _ => rfl
  have clBk : Cls K CBk := ⟨pgBk, hdBk, poBk, saBk⟩
  have meBk : PySem.W.kitOne K (.ref CBk) (.ref CBk) = some true := by
    show (if (Value.ref CBk == Value.ref CBk) = true then some true else _) = some true
    rw [if_pos (by simp)]
  have insBk : C8.InsC K CBk := ⟨clBk, icBk, isBk, ikBk, imBk, meBk⟩
  have TK : BkK K mg CBk := ⟨clBk, nBk0, nBk1, nBk2, nBk3, nBk4, nBk5, PySem.W.mg_of X G qaBk⟩
  have FSS : RSup.FunS l.prog K "__init__" "NoSuch.__init__" s_NoSuch fIS CS _ := ⟨⟨_, _, _, _, _, _, _, _, _, _, _, _, _, _, _, _, _, _, _, rfl, lIS, cIS, lcS, ldS, w2S, flS⟩⟩
  have NSK : NsK l.prog K mg CS fIS := ⟨PySem.W.mg_of X G hCS, ⟨oex_of xIS e4S, x1S, bCS, tCS, kCS⟩, ⟨PySem.W.kxs_LookupError, super_le xcS xmS, sBS, s3S, s4, PySem.W.mg_none_of X G hS, s5⟩, iNS, tIS, f0S, f1S⟩
  have c_NoSuch : NsR l.prog w K mg base 1 CS := ⟨fIS, _, NSK, ok_ns (k := 0) FSS NSK, binds_ns FSS⟩
  have mkBook : OMak l.prog w K mg base 1 "Book" CBk (spBI K CBk) [] := ⟨_, _, _, _, ⟨mkBk, abki, ibki, kcBk⟩, ok_bki (k := 0) Fbki T TK, PySem.W.mg_of X G qaBk, bbki_0, vbki_0⟩
  have mk_Book1 : OMak l.prog w K mg base 1 "Book" CBk (spBI K CBk) [.int 12] := ⟨_, _, _, _, ⟨mkBk, abki, ibki, kcBk⟩, ok_bki (k := 0) Fbki T TK, PySem.W.mg_of X G qaBk, bbki_1, vbki_1⟩
  have entB : OMet l.prog w K mg base 1 CBk "entries" (spBN K CBk) [] := ⟨_, _, _, _, clBk, ⟨abkn, ibkn, kbkn⟩, ok_bkn (k := 0) Fbkn T TK, bbkn, .nil⟩
  have chkB : OMetX l.prog w K mg base 3 CBk "check" (spBC K CBk CS) [] := ⟨_, _, _, _, clBk, ⟨abkc, ibkc, kbkc⟩, ok_bkc (k := 0) Fbkc T TK c_NoSuch entB, bbkc, .nil⟩
  have timB : OMet l.prog w K mg base 1 CBk "told_times" (spBT K CBk) [] := ⟨_, _, _, _, clBk, ⟨abkt, ibkt, kbkt⟩, ok_bkt (k := 0) Fbkt T TK, bbkt, .nil⟩
  have astB : OMet l.prog w K mg base 3 CBk "as_told" (spBA K CBk) [] := ⟨_, _, _, _, clBk, ⟨abka, ibka, kbka⟩, ok_bka (k := 0) Fbka T TK mkBook, bbka, .nil⟩
  have O : BkC l.prog w K mg base CBk CS := ⟨TK, mkBook, entB, ⟨_, _, _, _, clBk, ⟨abke, ibke, kbke⟩, ok_bke (k := 0) Fbke T TK, bbke_0, vbke_0⟩, ⟨_, _, _, _, clBk, ⟨abkp, ibkp, kbkp⟩, ok_bkp (k := 0) Fbkp TK chkB, bbkp, .nil⟩, ⟨_, _, _, _, clBk, ⟨abks, ibks, kbks⟩, ok_bks (k := 0) Fbks TK chkB, bbks, .nil⟩, ⟨_, _, _, _, clBk, ⟨abku, ibku, kbku⟩, ok_bku (k := 0) Fbku TK, bbku, .nil⟩, timB, astB, ⟨_, _, _, _, clBk, ⟨abkw, ibkw, kbkw⟩, ok_bkw (k := 0) Fbkw T TK astB timB, bbkw, .nil⟩⟩
  have len_Book : Own l.prog w K mg base 2 CBk "__len__" (spBL K CBk) := own_of ⟨abkl, ibkl, kbkl⟩ (ok_bkl (k := 0) Fbkl T TK entB) bbkl
  have eq_Book : Own l.prog w K mg base 2 CBk "__eq__" (spBQ K CBk) := own_of ⟨abkq, ibkq, kbkq⟩ (ok_bkq (k := 0) Fbkq T TK insBk entB) bbkq
  have ne_Book : NeK K CBk := ⟨imBk, inBk⟩
  have nfB : PySem.W.notFirst K CBk (.ref CBk) = true := by simp [PySem.W.notFirst]
  have KN : KinE K CBk := ⟨fun T hT => by
    simp only [List.mem_cons, List.not_mem_nil, or_false] at hT
    rcases hT with rfl | rfl | rfl | rfl | rfl
    · exact ⟨nf_of skNoneType, kit_subc rfl hdBk tyBk skNoneType⟩
    · exact ⟨nf_of skint, kit_subc rfl hdBk tyBk skint⟩
    · exact ⟨nf_of skstr, kit_subc rfl hdBk tyBk skstr⟩
    · exact ⟨nf_of sklist, kit_subc rfl hdBk tyBk sklist⟩
    · exact ⟨nf_of sktuple, kit_subc rfl hdBk tyBk sktuple⟩⟩
  have c__law_folded : Cl l.prog w K mg base 1 "_law_folded" ((spFolded K)) := ⟨_, _, _, ok_folded F1 T, g1, F1.kp, b1⟩
  have c__law_draws : Cl l.prog w K mg base 1 "_law_draws" ((spDraws K)) := ⟨_, _, _, ok_draws F2 T, g2, F2.kp, b2⟩
  have c__law_take : Cl l.prog w K mg base 1 "_law_take" (spTake) := ⟨_, _, _, ok_take F3 T, g3, F3.kp, b3⟩
  have c__law_pick : Cl l.prog w K mg base 2 "_law_pick" ((spPick K)) := ⟨_, _, _, ok_pick F4 T c__law_take, g4, F4.kp, b4⟩
  have c__law_some_names : Cl l.prog w K mg base 3 "_law_some_names" (spSome) := ⟨_, _, _, ok_somen F5 T c__law_take c__law_pick, g5, F5.kp, b5⟩
  have c__law_some_washes : Cl l.prog w K mg base 2 "_law_some_washes" ((spWsh K)) := ⟨_, _, _, ok_wsh F7 T c__law_take, g7, F7.kp, b7⟩
  have c__law_a_hall : Cl l.prog w K mg base 4 "_law_a_hall" ((spHall K)) := ⟨_, _, _, ok_hall F8 T c__law_take c__law_some_names c__law_some_washes, g8, F8.kp, b8⟩
  have c__law_a_book : Cl l.prog w K mg base 3 "_law_a_book" ((spAB K CBk)) := ⟨_, _, _, ok_ab F10 T O, g10, F10.kp, b10⟩
  have c__law_a_deed : Cl l.prog w K mg base 3 "_law_a_deed" ((spADeed K)) := ⟨_, _, _, ok_adeed F9 T c__law_take c__law_pick, g9, F9.kp, b9⟩
  have c__law_told_once : Cl l.prog w K mg base 7 "_law_told_once" ((spTO K CBk)) := ⟨_, _, _, ok_to F11 T O c__law_take c__law_pick c__law_a_deed, g11, F11.kp, b11⟩
  have c__law_apart : Cl l.prog w K mg base 8 "_law_apart" ((spAP K CBk)) := ⟨_, _, _, ok_ap F14 T O len_Book c__law_take c__law_told_once, g14, F14.kp, b14⟩
  have c__law_undone : Cl l.prog w K mg base 6 "_law_undone" ((spUD K CBk)) := ⟨_, _, _, ok_ud F15 T O len_Book, g15, F15.kp, b15⟩
  have c__law_same : Cl l.prog w K mg base 6 "_law_same" (spSame K 5) := ⟨_, _, _, ok_same F6 T b6 g6 5, g6, F6.kp, b6⟩
  have c__law_row_right : Cl l.prog w K mg base 7 "_law_row_right" ((spRR K CBk)) := ⟨_, _, _, ok_rr F12 T O len_Book c__law_same, g12, F12.kp, b12⟩
  have c__law_own_row_right : Cl l.prog w K mg base 8 "_law_own_row_right" ((spOR K CBk)) := ⟨_, _, _, ok_or F13 T O c__law_told_once c__law_row_right, g13, F13.kp, b13⟩
  have c__law_halls : Cl l.prog w K mg base 1 "_law_halls" ((spHA K)) := ⟨_, _, _, ok_ha F16 T, g16, F16.kp, b16⟩
  have c__law_equal_right : Cl l.prog w K mg base 8 "_law_equal_right" ((spER K CBk)) := ⟨_, _, _, ok_er F17 T O eq_Book ne_Book KN nfB c__law_same c__law_halls c__law_a_book, g17, F17.kp, b17⟩
  exact ok_law F18 T O len_Book eq_Book ne_Book nfB mk_Book1 c__law_folded c__law_draws c__law_take c__law_a_hall c__law_a_book c__law_told_once c__law_apart c__law_undone c__law_own_row_right c__law_equal_right
end Pot
open PySem PySem.W PyProof.Rows
set_option maxRecDepth 100000 in
set_option maxHeartbeats 0 in
theorem PySem.Challenge.cw_potround_k56_books_of_their_own_holds : PySem.Challenge.rw_potround_k56_books_of_their_own.Holds := by
  w_on; o_law; k_head; (case hw => w_witness2)
  k_fill
  refine L2.walk_of (l := PySem.Challenge.rw_potround_k56_books_of_their_own) (n := 63) (k := 9) (x := "_law_script") (CX := fun _ => L2.CX0) (sp := fun w => Pot.spLaw _) rfl (by decide) rfl ⟨rfl, by decide, by decide⟩ (fun w h Y => PySem.W.kIn_of Y) ?F (fun _ _ a ns hl _ hS => ⟨a, ns, rfl, hS, hl, fun _ => rfl⟩) (fun _ _ _ _ _ h => h)
  case F =>
    intro w mg fa h KX G hmg
    refine' Pot.all_mk KX G hmg ?a1 ?l1 ?c1 ?k1 ?a2 ?l2 ?c2 ?k2 ?a3 ?l3 ?c3 ?k3 ?a4 ?l4 ?c4 ?k4 ?a5 ?l5 ?c5 ?k5 ?a6 ?l6 ?c6 ?k6 ?a7 ?l7 ?c7 ?k7 ?a8 ?l8 ?c8 ?k8 ?a9 ?l9 ?c9 ?k9 ?a10 ?l10 ?c10 ?k10 ?a11 ?l11 ?c11 ?k11 ?a12 ?l12 ?c12 ?k12 ?a13 ?l13 ?c13 ?k13 ?a14 ?l14 ?c14 ?k14 ?a15 ?l15 ?c15 ?k15 ?a16 ?l16 ?c16 ?k16 ?a17 ?l17 ?c17 ?k17 ?a18 ?l18 ?c18 ?k18 ?z1 ?z2 ?z3 ?z4 ?z5 ?z6 ?z7 ?z8 ?z9 ?z10 ?z11 ?z12 ?z13 ?z14 ?z15 ?z16 ?z17 ?z18 ?z19 ?z20 ?qaBk ?abki ?ibki ?lbki ?cbki ?kbki ?tbki ?abke ?ibke ?lbke ?cbke ?kbke ?tbke ?abkp ?ibkp ?lbkp ?cbkp ?kbkp ?abks ?ibks ?lbks ?cbks ?kbks ?abkc ?ibkc ?lbkc ?cbkc ?kbkc ?abku ?ibku ?lbku ?cbku ?kbku ?abkn ?ibkn ?lbkn ?cbkn ?kbkn ?abkt ?ibkt ?lbkt ?cbkt ?kbkt ?abka ?ibka ?lbka ?cbka ?kbka ?abkw ?ibkw ?lbkw ?cbkw ?kbkw ?abkl ?ibkl ?lbkl ?cbkl ?kbkl ?abkq ?ibkq ?lbkq ?cbkq ?kbkq ?pgBk ?hdBk ?poBk ?saBk ?mkBk ?kcBk ?nBk0 ?nBk1 ?nBk2 ?nBk3 ?nBk4 ?nBk5 ?icBk ?isBk ?ikBk ?imBk ?inBk ?s4 ?s5 ?hS ?e6 ?e7 ?hCS ?xIS ?x1S ?bCS ?tCS ?kCS ?xcS ?xmS ?sBS ?s3S ?iNS ?tIS ?f0S ?f1S ?lIS ?cIS ?lcS ?ldS ?w2S ?flS ?e1S ?e2S ?e4S ?e5S ?e8S ?sCS ?tyBk ?skNoneType ?skint ?skstr ?sklist ?sktuple
    (case a1 => k_is)
    (case l1 => k_is)
    (case c1 => k_is)
    (case k1 => k_is)
    (case a2 => k_is)
    (case l2 => k_is)
    (case c2 => k_is)
    (case k2 => k_is)
    (case a3 => k_is)
    (case l3 => k_is)
    (case c3 => k_is)
    (case k3 => k_is)
    (case a4 => k_is)
    (case l4 => k_is)
    (case c4 => k_is)
    (case k4 => k_is)
    (case a5 => k_is)
    (case l5 => k_is)
    (case c5 => k_is)
    (case k5 => k_is)
    (case a6 => k_is)
    (case l6 => k_is)
    (case c6 => k_is)
    (case k6 => k_is)
    (case a7 => k_is)
    (case l7 => k_is)
    (case c7 => k_is)
    (case k7 => k_is)
    (case a8 => k_is)
    (case l8 => k_is)
    (case c8 => k_is)
    (case k8 => k_is)
    (case a9 => k_is)
    (case l9 => k_is)
    (case c9 => k_is)
    (case k9 => k_is)
    (case a10 => k_is)
    (case l10 => k_is)
    (case c10 => k_is)
    (case k10 => k_is)
    (case a11 => k_is)
    (case l11 => k_is)
    (case c11 => k_is)
    (case k11 => k_is)
    (case a12 => k_is)
    (case l12 => k_is)
    (case c12 => k_is)
    (case k12 => k_is)
    (case a13 => k_is)
    (case l13 => k_is)
    (case c13 => k_is)
    (case k13 => k_is)
    (case a14 => k_is)
    (case l14 => k_is)
    (case c14 => k_is)
    (case k14 => k_is)
    (case a15 => k_is)
    (case l15 => k_is)
    (case c15 => k_is)
    (case k15 => k_is)
    (case a16 => k_is)
    (case l16 => k_is)
    (case c16 => k_is)
    (case k16 => k_is)
    (case a17 => k_is)
    (case l17 => k_is)
    (case c17 => k_is)
    (case k17 => k_is)
    (case a18 => k_is)
    (case l18 => k_is)
    (case c18 => k_is)
    (case k18 => k_is)
    (case z1 => k_is)
    (case z2 => k_is)
    (case z3 => k_is)
    (case z4 => k_is)
    (case z5 => k_is)
    (case z6 => k_is)
    (case z7 => k_is)
    (case z8 => k_is)
    (case z9 => k_is)
    (case z10 => k_is)
    (case z11 => k_is)
    (case z12 => k_is)
    (case z13 => k_is)
    (case z14 => k_is)
    (case z15 => k_is)
    (case z16 => k_is)
    (case z17 => k_is)
    (case z18 => k_is)
    (case z19 => k_is)
    (case z20 => k_is)
    (case qaBk => k_is)
    (case abki => k_is)
    (case ibki => k_is)
    (case lbki => k_is)
    (case cbki => k_is)
    (case kbki => k_is)
    (case tbki => k_is)
    (case abke => k_is)
    (case ibke => k_is)
    (case lbke => k_is)
    (case cbke => k_is)
    (case kbke => k_is)
    (case tbke => k_is)
    (case abkp => k_is)
    (case ibkp => k_is)
    (case lbkp => k_is)
    (case cbkp => k_is)
    (case kbkp => k_is)
    (case abks => k_is)
    (case ibks => k_is)
    (case lbks => k_is)
    (case cbks => k_is)
    (case kbks => k_is)
    (case abkc => k_is)
    (case ibkc => k_is)
    (case lbkc => k_is)
    (case cbkc => k_is)
    (case kbkc => k_is)
    (case abku => k_is)
    (case ibku => k_is)
    (case lbku => k_is)
    (case cbku => k_is)
    (case kbku => k_is)
    (case abkn => k_is)
    (case ibkn => k_is)
    (case lbkn => k_is)
    (case cbkn => k_is)
    (case kbkn => k_is)
    (case abkt => k_is)
    (case ibkt => k_is)
    (case lbkt => k_is)
    (case cbkt => k_is)
    (case kbkt => k_is)
    (case abka => k_is)
    (case ibka => k_is)
    (case lbka => k_is)
    (case cbka => k_is)
    (case kbka => k_is)
    (case abkw => k_is)
    (case ibkw => k_is)
    (case lbkw => k_is)
    (case cbkw => k_is)
    (case kbkw => k_is)
    (case abkl => k_is)
    (case ibkl => k_is)
    (case lbkl => k_is)
    (case cbkl => k_is)
    (case kbkl => k_is)
    (case abkq => k_is)
    (case ibkq => k_is)
    (case lbkq => k_is)
    (case cbkq => k_is)
    (case kbkq => k_is)
    (case pgBk => k_is)
    (case hdBk => k_is)
    (case poBk => k_is)
    (case saBk => k_is)
    (case mkBk => k_is)
    (case kcBk => k_is)
    (case nBk0 => k_is)
    (case nBk1 => k_is)
    (case nBk2 => k_is)
    (case nBk3 => k_is)
    (case nBk4 => k_is)
    (case nBk5 => k_is)
    (case icBk => k_is)
    (case isBk => k_is)
    (case ikBk => k_is)
    (case imBk => k_is)
    (case inBk => k_is)
    (case s4 => k_is)
    (case s5 => first | rfl | decide +kernel | k_is)
    (case hS => k_is)
    (case e6 => k_is)
    (case e7 => k_is)
    (case hCS => k_is)
    (case xIS => first | k_is | k_exc | kx_is)
    (case x1S => k_is)
    (case bCS => k_is)
    (case tCS => k_is)
    (case kCS => k_is)
    (case xcS => k_is)
    (case xmS => first | rfl | k_is)
    (case sBS => k_is)
    (case s3S => k_is)
    (case iNS => k_is)
    (case tIS => k_is)
    (case f0S => k_is)
    (case f1S => k_is)
    (case lIS => k_is)
    (case cIS => k_is)
    (case lcS => k_is)
    (case ldS => k_is)
    (case w2S => first | rfl | k_is)
    (case flS => first | rfl | decide +kernel | k_is)
    (case e1S => k_is)
    (case e2S => k_is)
    (case e4S => k_is)
    (case e5S => k_is)
    (case e8S => k_is)
    (case sCS => k_is)
    (case tyBk => k_is)
    (case skNoneType => k_is)
    (case skint => k_is)
    (case skstr => k_is)
    (case sklist => k_is)
    (case sktuple => k_is)
