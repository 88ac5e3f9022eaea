import PyProof.Rows.All
import Wide.All
import OpenK.AllK
import Wide.FinOn
import HandS.ForMost
import PyProof.ReprRoads
import HandS.FStrTup
import HandS.Strs
import HandS.SetFor
import HandS.Zip
import HandS.ForExc
import HandS.IsInst
import HandS.Evl
import HandS.Conv
import HandS.Flow
import HandS.Style
import HandS.Sort
import HandS.Walk
import HandS.Codes
import HandS.StrMore
import HandS.TupAny
import HandS.Defaults
import KE.KEqSeq
import HandS.WideBits
import HandS.More
import KE.KLam
import KE.SortKeyHeap
import KE.SortData
import KE.SortLaws
import HandS.Base
import HandS.Call
import HandS.List
import HandS.Comp
import HandS.Text
import HandS.Lambda
import PyProof.SetRoads
import HandS.Deep
import PyProof.StrBlock2
import KE.GoesNew
import KE.DataCmp
import KE.KNestM
import PyProof.Rows.SortShellAny
import HandS.DictTup
import HandS.DictSubView
import KE.KDictDisplayH
import KE.KDictWalk
import KE.KTupSum
import PyProof.Rows.StrCase
import PyProof.Rows.ReprOcc
import PyProof.FitsInt
import HandS.DictComp
import PySem.Challenge.RW_potround_k84_whole_what_is_made_of_order
set_option Elab.async false
set_option linter.all false
set_option maxRecDepth 100000
namespace Pot
open PySem PySem.Spec PyProof.Rows L2
/-! ### defs that are called where no text of a thing is under way -/
structure FnG (P : Program) (w : World) (K : PySem.W.Frag) (mg : Str → Option Value) (base : Heap) (k : Nat) (f : Addr) (fd : FuncData) (ps : List Str) (sp : Sp) : Prop where
  many : ∀ vs H Q E, sp vs H Q E → vs.length = ps.length
  does : ∀ (A : Around) (outer : List Env) (s : Shared) (H : Hp) (args : Args) (us : List Value) (vs : List V) (Q : VK), A.guards = some [] → Room k A → Env0 P w K mg base A outer s H →
    BindsTo s fd args (ps.zip us) → Vals vs us → sp vs H Q E0 → codeAny (model P w) A (.call (.ref f) args) (CR CX0 outer P w H s Q E0) s
section
variable {P : Program} {w : World} {K : PySem.W.Frag} {mg : Str → Option Value} {base : Heap}
theorem FnG.of {k : Nat} {f : Addr} {fd : FuncData} {ps : List Str} {sp : Sp} (F : FnOk P w K mg base CX0 k f fd ps sp) : FnG P w K mg base k f fd ps sp :=
  ⟨F.len, fun A outer s H args us vs Q _ hr e hb r h => F.run A outer s H args us vs Q E0 hr e hb r h⟩
theorem okG {x qual : Str} {st : Stmt} {f : Addr} {fd : FuncData} {N ps : List Str} {k : Nat} {sp : Sp} (F : Fun K x qual st f fd) (S : FnScope N ps (defScope st)) (many : ∀ vs H Q E, sp vs H Q E → vs.length = ps.length)
    (body : ∀ (cdv : Value) (A : Around) (outer : List Env) (s : Shared) (H : Hp) (vs : List V) (Q : VK), A.guards = some [] → Room k (A.deeper (envOfC qual (defScope st) s.heap.objs.size f cdv)) → sp vs H Q E0 →
      ∃ t, PSs (cxOf CX0 P w K mg base N qual (defScope st) f cdv A outer s H E0).nox (defBody st) t ∧ t { nx := fun _ H' => Q .non H', rt := Q } (start N vs) H) : FnG P w K mg base (k + 1) f fd ps sp := by
  obtain ⟨oc, od, kV, doc, pm, an, cdv, ct, osl, rfl, at_, code⟩ := F.ex
  refine ⟨many, fun A outer s H args us vs Q gd room e0 bind rel want => ?_⟩
  have kin : K.In s.heap := e0.mod.kin.keeps fun b o e => (e0.bs b o e).1
  have nolim : s.heap.NoLimit := e0.mod.nolimit.keeps fun b o e => (e0.bs b o e).1
  refine codeAny_call_function room.depth (kin _ _ at_) rfl S.co S.gen rfl (PySem.W.codeRec_of kin code) (bind _ _ _ _ (wpAny_newFunctionEnv_cells S.kind (fun y hy => ?_) fun env he s1 x => ?_))
  · obtain ⟨n, v⟩ := y
    exact (S.par n (List.of_mem_zip hy).1).imp id fun q => ⟨q, PySem.W.cellsFrom_some _ _ _ (.inl q)⟩
  · subst he
    obtain ⟨t, ht, hq⟩ := body cdv A outer s H vs Q gd (room.deeper _) want
    have I : Inv (cxOf CX0 P w K mg base N qual (defScope st) f cdv A outer s H E0) [] (start N vs) H s1 := inv_start S room.hd e0 (many _ _ _ _ want) rel x
    refine ⟨nolim.keeps x.toInCall.keep, codeAny_func (wpAny_mono (ht.nox.run [] s1 (start N vs) H _ I hq) (fun fl s' hs => ?_) fun _ _ z => z)⟩
    cases fl with
    | ret u =>
      obtain ⟨v, σ', H', J, rv, q⟩ := hs
      exact ⟨v, H', J.os, J.bare, J.base, J.hok, rv, q⟩
    | next =>
      obtain ⟨σ', H', J, q⟩ := hs
      exact ⟨V.non, H', J.os, J.bare, J.base, J.hok, rfl, q⟩
    | brk => obtain ⟨_, _, _, q⟩ := hs; exact q.elim
    | cont => obtain ⟨_, _, _, q⟩ := hs; exact q.elim
/-! calls -/
/-- a def that may be called by its name where no text is under way -/
def ClG (P : Program) (w : World) (K : PySem.W.Frag) (mg : Str → Option Value) (base : Heap) (k : Nat) (x : Str) (ds : List V) (sp : Sp) : Prop :=
  ∃ (f : Addr) (fd : FuncData) (ps : List Str) (dus : List Value), FnG P w K mg base k f fd ps sp ∧ mg x = some (.ref f) ∧ PySem.W.keepIn K (.ref f) = true ∧ Binds K fd ps dus ∧ Vals ds dus
theorem pe_clG {X : Cx} {k j : Nat} {x : Str} {ds : List V} {sp : Sp} {e : Expr} {es : List Expr} {t : TA} {p pos : Pos} (c : ClG X.prog X.w X.K X.mg X.base k x ds sp) (hr : Room j X.A) (gd : X.A.guards = some []) (hk : k ≤ j) (hg : Gl X x) (ha : PA X (e :: es) t)
    (hdb : (x == ("__debug__" : Str)) = false := by decide) (he : starEach (e :: es) X.env = (false, eval e X.env) :: starEach es X.env := by rfl) (hpl : (backTo pos (starEach es X.env)).any (·.1) = false := by rfl) :
    PE X (.Call (.Name x p) (e :: es) [] pos) (tCall sp ds E0 t) := by
  obtain ⟨f, fd, ps, dus, G, named, kept, binds, dv⟩ := c
  refine ⟨fun pins s σ H Q I h => wpAny_Call_Name_kw (ld_glob I hg named (PySem.W.callWith_K (h₀ := X.base) I.ok.mod.kin kept (thn (ha.run pos pins s σ H _ I h) fun us s1 hh => ?_) he hpl) hdb)⟩
  obtain ⟨vs, H1, I1, r, q⟩ := hh
  refine ⟨I1.kIn, ?_⟩
  have rel := r.append dv
  have n : (us ++ dus).length = ps.length := rel.length ▸ G.many _ _ _ _ q
  refine wpAny_call (codeAny_mono (G.does X.A X.stack s1 H1 ⟨us, []⟩ (us ++ dus) (vs ++ ds) Q gd (hr.mono hk) I1.env0 (binds s1 us I1.kIn n) rel q) fun res s' hq => ?_)
  rcases res with _ | fl
  case error => exact (show False from hq).elim
  cases fl <;> first | exact I1.after hq | exact (show False from hq).elim
/-! the law's own call -/
theorem law_callG {mb : Str → Option Value} {k : Nat} {fa a : Addr} {fd : FuncData} {x : Str} {sp : Sp} {s : Shared} {vs : List Value} {ns : List Int} (kin : K.In s.heap) (glob : s.heap.Ns mainGlobals mg) (blt : s.heap.Ns builtinsNs mb)
    (boot : ∀ y : Str, y ≠ "__name__" → mb y = bootBuiltins y) (lim : s.heap.NoLimit) (gens : s.gens = #[]) (obj : s.heap.get? a = some { cls := .type "list", data := .seq vs.toArray }) (whole : IntsAre vs ns) (small : ns.length ≤ sizeLine) (room : Room k callerA)
    (F : ∀ base : Heap, K.In base → base.Ns mainGlobals mg → FnG P w K mg base k fa fd [x] sp) (bind : ∀ (s : Shared) (u : Value), BindsTo s fd ⟨[u], []⟩ [(x, u)])
    (want : ∀ H : Hp, Only H → SqL K H a (ns.map V.int) → sp [.ref a] H (fun v _ => v = .bl true) E0) :
    codeAny (model P w) callerA (.call (.ref fa) ⟨[.ref a], []⟩) (fun r s' => r = .ok (.ret (.bool true)) ∧ OldK s.heap s'.heap ∧ s'.os = s.os ∧ AllBare s'.gens) s := by
  have rv := vals_ints whole
  have nv := whole.length
  -- which heap is told: the script, locked, where it isn't one of the written part
  obtain ⟨H, only, seq, fine, alone, apart⟩ : ∃ H : Hp, Only H ∧ SqL K H a (ns.map V.int) ∧ HOk P w H s.heap ∧ (∀ b u, H b = some u → b = a) ∧ (∀ u, H a = some u → K.lookup a = none) := by
    cases lk : K.lookup a with
    | some o =>
      have same := kin a o lk
      rw [obj] at same
      cases same
      exact ⟨fun _ => none, fun _ => .inl rfl, .inr ⟨_, vs.toArray, _, lk, rfl, rfl, rfl, by rw [List.size_toArray, nv]; exact small, by simpa using rv⟩, (fun b u z => nomatch (show (none : Option HO) = some u from z)), (fun b u z => nomatch (show (none : Option HO) = some u from z)), fun u z => nomatch (show (none : Option HO) = some u from z)⟩
    | none =>
      have hit : ∀ b u, (if b = a then some (HO.frz { cls := .type "list", data := .seq vs.toArray } (.lst (ns.map V.int))) else none) = some u → b = a ∧ u = .frz { cls := .type "list", data := .seq vs.toArray } (.lst (ns.map V.int)) := fun b u z => by
        split at z
        · cases z; exact ⟨‹_›, rfl⟩
        · cases z
      refine ⟨fun b => if b = a then some (.frz { cls := .type "list", data := .seq vs.toArray } (.lst (ns.map V.int))) else none, fun b => ?_, .inl (.inr ⟨_, if_pos rfl⟩), fun b u z => ?_, fun b u z => (hit b u z).1, fun _ _ => rfl⟩
      · by_cases hb : b = a
        · exact .inr ⟨_, _, if_pos hb⟩
        · exact .inl (if_neg hb)
      · obtain ⟨rfl, rfl⟩ := hit b u z
        exact ⟨obj, by rw [List.length_map]; exact small, vs, _, rv, obj⟩
  have hid : ∀ {b : Addr} {o : Obj}, s.heap.get? b = some o → (b = a → H a = none) → (hidT s.heap H).get? b = some o := fun {b o} e n => hidT_get e (by
    cases q : H b with
    | none => rfl
    | some u =>
      have e2 := alone b u q
      subst e2
      rw [n rfl] at q
      cases q)
  have kinB : K.In (hidT s.heap H) := fun b o e => hid (kin b o e) fun z => by
    subst z
    cases q : H b with
    | none => rfl
    | some u => rw [apart u q] at e; cases e
  have ns_ : ∀ {b : Addr} {m : Str → Option Value}, s.heap.Ns b m → (hidT s.heap H).Ns b m := fun {b m} h => by
    obtain ⟨o, es, ep, e, d, r⟩ := h
    refine ⟨o, es, ep, hid e fun z => ?_, d, r⟩
    subst z
    rw [obj] at e
    cases e
    exact nomatch (show Data.seq vs.toArray _ = Data.dict es ep from d)
  have md : Mod K mg (hidT s.heap H) := ⟨kinB, ns_ glob, ⟨mb, ns_ blt, boot⟩, by obtain ⟨mc, h1, h2⟩ := lim; exact ⟨mc, ns_ h1, h2⟩⟩
  have e0 : Env0 P w K mg (hidT s.heap H) callerA [] s H := ⟨rfl, md, fun b o e => of_hidT e, Nat.le_of_eq (hidT_size _ _), trivial, (fun b hb => nomatch (show b ∈ ([] : List Addr) from hb)), fine, .of_eq gens⟩
  refine codeAny_mono ((F _ kinB (ns_ glob)).does callerA [] s H ⟨[.ref a], []⟩ [.ref a] [.ref a] _ rfl room e0 (bind s (.ref a)) (.cons rfl .nil) (want H only seq)) fun res s' h => ?_
  rcases res with _ | fl
  case error => exact (show False from h).elim
  cases fl <;> first | exact (show False from h).elim | skip
  obtain ⟨v, H', os, bare, un, fine', rel, q⟩ := h
  cases (show v = .bl true from q)
  cases (show _ = Value.bool true from rel)
  refine ⟨rfl, OldK.of_keep fun b o e => ?_, os, bare⟩
  cases q : H b with
  | none => exact un.keep b o e q (fun z => nomatch (show b ∈ ([] : List Addr) from z)) (fun z => nomatch z)
  | some u =>
    rcases only b with z | ⟨ob, xs, z⟩
    · rw [q] at z; cases z
    · obtain ⟨e1, _⟩ := fine b _ z
      obtain ⟨e2, _⟩ := fine' b _ (un.frzs b ob _ z)
      rw [e] at e1; cases e1
      exact e2
end
theorem walkG {l : PySem.W.OpenLaw} {n k : Nat} {q : Program} {loose : List Str} {XP : (Str → Option Value) → Heap → Prop} {YP : World → Heap → Prop} {d : DefRec} {K : Params → PySem.W.Frag} {sp : World → Sp} {x : Str}
    (most : l.most = some n) (fits : n ≤ sizeLine) (plain : d.params.defaults = []) (room : Room k callerA) (part : ∀ (w : World) (h : Heap), YP w h → (K w.params).In h)
    (F : ∀ (w : World) (mg : Str → Option Value) (fa : Addr) (h : Heap), (K w.params).In h → h.Ns mainGlobals mg → mg d.name = some (.ref fa) →
      ∃ fd : FuncData, (∀ (s : Shared) (u : Value), BindsTo s fd ⟨[u], []⟩ [(x, u)]) ∧ ∀ base : Heap, (K w.params).In base → base.Ns mainGlobals mg → FnG l.prog w (K w.params) mg base k fa fd [x] (sp w))
    (want : ∀ (w : World) (H : Hp) (a : Addr) (ns : List Int), ns.length ≤ n → Only H → SqL (K w.params) H a (ns.map V.int) → sp w [.ref a] H (fun v _ => v = .bl true) E0) :
    PySem.W.WalkO q loose XP YP l.row.toRowW d [] (fun f vs => PySem.call f vs) := by
  refine Att.attach_call most plain fun w s₀ s₁ mg mb fa o pm cd doc a vs ns G Y _ _ _ named obj whole len gens => ?_
  obtain ⟨fd, bind, hF⟩ := F w mg fa _ (part w _ Y) G.T.g named
  exact law_callG (part w _ Y) G.T.g G.T.b G.T.builtins G.T.nolimit gens obj whole (Nat.le_trans len fits) room hF bind fun H only seq => want w H a ns len only seq
end Pot

namespace Pot
open PySem PySem.Spec PyProof.Rows L2
/-! ### repr of what is made of numbers, texts, truths, None, lists and tuples -/
section
variable {K : PySem.W.Frag}
mutual
theorem dp_noDict {H : Hp} : ∀ {v : V} {d : PyData}, Dp K H v d → d.hasDict = false
  | _, _, .non => rfl
  | _, _, .bl _ => rfl
  | _, _, .int _ => rfl
  | _, _, .str _ => rfl
  | _, _, .lst _ a => dpAll_noDict a
  | _, _, .tup _ a => dpAll_noDict a
theorem dpAll_noDict {H : Hp} : ∀ {vs : List V} {ds : List PyData}, DpAll K H vs ds → PyData.hasDictAll ds = false
  | _, _, .nil => rfl
  | _, _, .cons h t => by
    show (PyData.hasDict _ || PyData.hasDictAll _) = false
    rw [dp_noDict h, dpAll_noDict t]
    rfl
end
/-- how long its text may be, told roughly -/
def costAll : List PyData → Nat
  | [] => 0
  | x :: xs => cost x + 2 + costAll xs
where cost : PyData → Nat
  | .none => 4
  | .bool _ => 5
  | .int _ => 1921
  | .str x => 10 * x.length + 2
  | .list xs => costAll xs + 3
  | .tuple xs => costAll xs + 3
  | .dict _ => 0
/-- what repr is asked of here: its texts of plain signs -/
def fineAll : List PyData → Prop
  | [] => True
  | x :: xs => fine x ∧ fineAll xs
where fine : PyData → Prop
  | .none => True
  | .bool _ => True
  | .int i => i.natAbs.log2 < 1920
  | .str x => ∀ c ∈ x.cps.toList, c < 16 ^ 8
  | .list xs => fineAll xs
  | .tuple xs => fineAll xs
  | .dict _ => False
theorem from_len : ∀ (ts : List Str) (k : Nat) (acc : Str), (textFrom k acc ts).length ≤ acc.length + piled ts
  | [], k, acc => by rw [piled_nil]; exact Nat.le_refl _
  | t :: r, k, acc => by
    have ih := from_len r (k + 1)
    rw [piled_cons]
    unfold textFrom
    refine Nat.le_trans (ih _) ?_
    rw [strLen_append]
    split
    · rw [strLen_append]
      have e : (", " : Str).length = 2 := by decide +kernel
      omega
    · rw [strLen_append]
      have e : ("" : Str).length = 0 := by decide +kernel
      omega
theorem list_len (ts : List Str) : (listText ts).length ≤ piled ts + 2 := by
  unfold listText
  rw [strLen_append]
  have h := from_len ts 0 "["
  have e1 : ("[" : Str).length = 1 := by decide +kernel
  have e2 : ("]" : Str).length = 1 := by decide +kernel
  omega
mutual
theorem shown_len : ∀ d : PyData, fineAll.fine d → d.shown.length ≤ costAll.cost d
  | .none, _ => by decide +kernel
  | .bool b, _ => by cases b <;> decide +kernel
  | .int i, h => PyProof.Rows.int_text_len_1921 h
  | .str x, h => StrLaws.reprText_len x h
  | .list xs, h => Nat.le_trans (list_len _) (Nat.add_le_add (piled_len xs h) (by decide))
  | .tuple xs, h => Nat.le_trans (fmt_text _) (Nat.add_le_add (piled_len xs h) (by decide))
  | .dict _, h => h.elim
theorem piled_len : ∀ ds : List PyData, fineAll ds → piled (PyData.shownAll ds) ≤ costAll ds
  | [], _ => Nat.le_refl _
  | x :: xs, h => by
    have h1 := shown_len x h.1
    have h2 := piled_len xs h.2
    show piled (x.shown :: PyData.shownAll xs) ≤ costAll.cost x + 2 + costAll xs
    rw [piled_cons]
    omega
end
mutual
theorem fine_show : ∀ d : PyData, fineAll.fine d → d.showable = true
  | .none, _ => rfl
  | .bool _, _ => rfl
  | .int i, h => decide_eq_true h
  | .str _, _ => rfl
  | .list xs, h => fineAll_show xs h
  | .tuple xs, h => fineAll_show xs h
  | .dict _, h => h.elim
theorem fineAll_show : ∀ ds : List PyData, fineAll ds → PyData.showableAll ds = true
  | [], _ => rfl
  | x :: xs, h => by
    show (PyData.showable x && PyData.showableAll xs) = true
    rw [fine_show x h.1, fineAll_show xs h.2]
    rfl
end
end
section
variable {X : Cx}
def rRepr (K : PySem.W.Frag) : List V → Hp → VK → Prop := fun xs H Q => ∃ (a : Addr) (d : PyData), xs = [V.ref a] ∧ Dp K H (.ref a) d ∧ fineAll.fine d ∧ d.depth ≤ 60 ∧ costAll.cost d ≤ 16777216 ∧ Q (.str d.shown) H
theorem cr_repr (gd : X.A.guards = some []) (hu : X.A.units + 64 < cLine) : CallR X (.builtin "repr") (rRepr X.K) := by
  intro pins s σ H vs us Q I r h
  obtain ⟨a, d, rfl, dp, sh, dep, sz, q⟩ := h
  rw [Vals.ref1 r]
  obtain ⟨as, rd⟩ := Dp.reads I d (.ref a) (.ref a) dp rfl
  refine repr_of_reads' rd (fine_show d sh) (fun z => ?_) gd (by omega) (fun _ _ e => e) (fun h' u tk k => ⟨.str d.shown, H, I.kept k, ⟨u, rfl⟩, q⟩) (Nat.le_trans (shown_len d sh) (by rw [sizeLine_eq]; exact sz))
  rw [dp_noDict dp] at z
  cases z
end
end Pot

namespace Pot
open PySem PySem.Spec PyProof.Rows L2 PySem.W PySem.Calls
/-! ### set(xs) of a list of ints -/
/-- the object that set() makes first -/
abbrev emptySet (w : World) : Obj := { cls := .type "set", dict := none, data := .set #[] 0 (.fresh 0 0 (!w.params.followText "set-order")) }
section
variable {P : Program} {w : World} {A : Around} {E : Value → Shared → Prop} {s : Shared}
/-- what is wanted behind the filling -/
def Filled (w : World) (s : Shared) (ns : List Int) (s' : Shared) : Prop := ∃ h' tk c, s' = { s with heap := h', toks := tk } ∧ SetR w h' s.heap.objs.size (fun j => decide (j ∈ ns)) c ∧ c ≤ ns.length ∧ ∀ b o, s.heap.get? b = some o → h'.get? b = some o
set_option maxHeartbeats 4000000 in
theorem call_set_li {l : Addr} {items : Array Value} (ns : List Int) {Q : Value → Shared → Prop} (hh : A.handled = none) (hl : s.heap.IsList l items) (hit : IntsAre items.toList ns) (hb : ns.length + 1 < scanBound)
    (hq : ∀ s', Filled w s ns s' → Q (.ref s.heap.objs.size) s') : wpAny (model P w) A (call (.type "set") [.ref l]) Q E s := by
  have size : items.size = ns.length := by
    rw [← Array.length_toList]; exact IntsAre.length hit
  have made := F.called_set.made
  have below := F.called_set.sub
  obtain ⟨_, _, chain⟩ := F.called_set.mro
  have nt := F.called_set.notType
  have cc := F.called_set.canCreate
  have ck := F.typeCall_set_1 (.ref l)
  refine wpAny_call (codeAny_of_tree (show wpAny _ _ (callAny (.type "set") _) _ _ _ from wpAny_pure ⟨Code.quiet_builtin _ (by decide +kernel), codeAny_builtin F.entry_type_call ?_⟩))
  rw [Around.under_plain (weight_type_call_type "set" [.ref l] []) rfl]
  repeat (any_goals (first | assumption | wp_step))
  refine codeAny_mono (code_set_led1 (.ref l) (E := E) (Q₁ := fun obj z => obj = .ref s.heap.objs.size ∧ z = { s with heap := s.heap.push (emptySet w) }) ⟨rfl, rfl⟩) fun r z hr => ?_
  rcases r with _ | fl
  case error => exact hr
  cases fl <;> first | exact hr.elim | skip
  obtain ⟨rfl, rfl⟩ := hr
  have at0 : (s.heap.push (emptySet w)).get? s.heap.objs.size = some (emptySet w) := Heap.get?_push_size _ rfl
  have ty0 : Shared.TypeIs { s with heap := s.heap.push (emptySet w) } (.ref s.heap.objs.size) "set" := ⟨_, at0, rfl⟩
  have li := F.called_set.init.lookup
  have bi := F.called_set.init.bind (.ref s.heap.objs.size)
  repeat (any_goals (first | assumption | wp_step))
  refine codeAny_mono (codeAny_call_builtin (R := wants (fun r z => r = .none ∧ Filled w s ns z) E) F.called_set.init.plain F.entry_set_init (check_set_init_1 ty0 ?_)) fun r z hz => ?_
  · obtain ⟨⟨_, od, _, os⟩, hol, hcl, nl, hdl⟩ := hl
    simp only at hcl hdl
    subst hcl
    subst hdl
    have keep : (s.heap.push (emptySet w)).get? l = some { cls := .type "list", dict := od, data := .seq items nl, slots := os } := Heap.get?_push_of_some _ hol
    have s1 := F.sub_list_set
    have s2 := F.sub_list_frozenset
    have s3 : (Value.type "list" == Value.type "dict") = false := by decide
    have isl : (s.heap.push (emptySet w)).IsList l items := ⟨_, keep, rfl, nl, rfl⟩
    unfold Builtin.«set.__init__» noKeywords Builtin.Frozenset.updateFrom
    generalize hPI : pyIter = PI
    wp_walk
    subst hPI
    refine wpAny_pyIter_list isl (wpAny_bind (wpAny_runValue ?_))
    have lt : l < s.heap.objs.size := Heap.lt_size hol
    have sz : (s.heap.push (emptySet w)).objs.size = s.heap.objs.size + 1 := Heap.size_push ..
    have ne1 : l ≠ (s.heap.push (emptySet w)).objs.size := by rw [sz]; exact Nat.ne_of_lt (Nat.lt_succ_of_lt lt)
    have ne2 : s.heap.objs.size ∉ [(s.heap.push (emptySet w)).objs.size, l] := by
      rw [sz]
      intro z
      rcases List.mem_cons.mp z with z | z
      · exact absurd z (Nat.ne_of_lt (Nat.lt_succ_self _))
      · exact absurd (List.mem_singleton.mp z) (Nat.ne_of_gt lt)
    have each : ∀ (i : Nat) (v : Value), items[i]? = some v → ∃ k t, ns[i]? = some k ∧ v = .int k t := fun i v hv => by
      have hi : i < ns.length := size ▸ (Array.getElem?_eq_some_iff.mp hv).1
      obtain ⟨t, e⟩ := IntsAre.int_at hit i v (by rw [Array.getElem?_toList]; exact hv)
      exact ⟨ns[i], t, List.getElem?_eq_getElem hi, by rw [e, List.getD_eq_getElem?_getD, List.getElem?_eq_getElem hi]; rfl⟩
    refine set_update_ints ((Walks.list (show A.in1.in1.in1.handled = none by simp [hh]) _ l ne1 items).toS) s.heap.objs.size ne2 ns size hb each (items.size - 0) 0 _ (by omega) (Nat.zero_le _) ⟨⟨_, Heap.get?_push_size _ rfl, rfl, rfl⟩, isl.push _⟩ ⟨0, Nat.le_refl 0, setR_new_at (Heap.get?_push_of_some _ at0)⟩ fun s' c hm hc hS => ?_
    obtain ⟨h', g, d, tk, o⟩ := s'
    cases (show g = s.gens from hm.gens)
    cases (show d = s.drawn from hm.drawn)
    cases (show o = s.os from hm.os)
    refine (show wpAny _ _ _ _ _ _ from wpAny_pure (show wpAny _ _ (ret Value.none) _ _ _ from wpAny_pure ⟨rfl, h', tk, c, rfl, hS, size ▸ hc, fun b o e => ?_⟩))
    have hb0 : b < s.heap.objs.size := Heap.lt_size e
    refine hm.heap b o (fun z => ?_) (Heap.get?_push_of_some _ (Heap.get?_push_of_some _ e))
    rcases List.mem_cons.mp z with z | z
    · exact absurd z (Nat.ne_of_lt hb0)
    · exact absurd ((List.mem_singleton.mp z).trans sz) (Nat.ne_of_lt (Nat.lt_succ_of_lt hb0))
  · rcases r with _ | fl
    case error => exact hz
    cases fl <;> first | exact hz.elim | skip
    obtain ⟨rfl, f⟩ := hz
    obtain ⟨h', tk, c, rfl, hS, hc, k⟩ := id f
    repeat (any_goals (first | assumption | wp_step))
    exact hq _ ⟨_, _, _, rfl, hS, hc, k⟩
end
section
variable {X : Cx}
/-- set(xs), at most 60 ints: a set of just these -/
def rSetLi (K : PySem.W.Frag) (w : World) : List V → Hp → VK → Prop := fun xs H Q => ∃ (a : Addr) (ns : List Int), xs = [V.ref a] ∧ SqL K H a (ns.map V.int) ∧ ns.length ≤ 1000 ∧
  ∀ (p : Addr) (c : Nat), H p = none → c ≤ ns.length → Q (.ref p) (upd H p (SetO w p (fun k => decide (k ∈ ns)) c))
theorem cr_setLi (hc : X.calm = true) : CallR X (.type "set") (rSetLi X.K X.w) := by
  intro pins s σ H vs us Q I r h
  obtain ⟨a, ns, rfl, hS, hl, q⟩ := h
  rw [Vals.ref1 r]
  obtain ⟨its, rv, pl, hz⟩ := I.list hS
  refine call_set_li ns (I.ok.hd hc) pl.isList (by simpa using Vals.ints rv) (by unfold scanBound; omega) fun s' f => ?_
  obtain ⟨h', tk, c, rfl, R, hcn, k⟩ := f
  have hn : H s.heap.objs.size = none := I.hok.fresh (Nat.le_refl _)
  have J : Inv X pins σ (upd H s.heap.objs.size (SetO X.w s.heap.objs.size (fun k => decide (k ∈ ns)) c)) { s with heap := h', toks := tk } := I.laid (t' := tk) k (Nat.le_refl _) (setO_new R)
  exact ⟨.ref s.heap.objs.size, _, J, rfl, q _ _ hn hcn⟩
end
end Pot

/-! The rules whose readings name the written part, with it as a letter of its own. -/
namespace Pot
open PySem PySem.Spec PyProof.Rows L2
section
variable {X : Cx} {K : PySem.W.Frag}
theorem kx_list (h : X.K = K := by rfl) : IxR X (rIxL K) := h ▸ ix_list
theorem kx_tup (h : X.K = K := by rfl) : IxR X (rIxT K) := h ▸ ix_tup
theorem kl_list (h : X.K = K := by rfl) : SlR X (rSlL K) := h ▸ sl_list
theorem kl_tup (h : X.K = K := by rfl) : SlR X (rSlA K) := h ▸ sl_tupA
theorem ko_in (h : X.K = K := by rfl) : OpR X (compareOp .In) (rIn K false) := h ▸ op_in_seq
theorem ko_eq (hu : X.A.units + 64 < cLine) (h : X.K = K := by rfl) : OpR X (compareOp .Eq) (rEqD K) := h ▸ op_eqD hu
theorem ko_ne (hu : X.A.units + 64 < cLine) (h : X.K = K := by rfl) : OpR X (compareOp .NotEq) (rNeD K) := h ▸ op_neD hu
def rLen (K : PySem.W.Frag) : List V → Hp → VK → Prop := fun xs H Q => ∃ x n, xs = [x] ∧ LenV K x H n ∧ Q (.int n) H
theorem kc_len (h : X.K = K := by rfl) : CallR X (.builtin "len") (rLen K) := by subst h; exact call_len
def rListOf (K : PySem.W.Frag) : List V → Hp → VK → Prop := fun xs H Q => ∃ p ys, xs = [.ref p] ∧ (SqL K H p ys ∨ SqT K H p ys) ∧ ∀ l, H l = none → Q (.ref l) (upd H l (.lst ys))
theorem kc_list (h : X.K = K := by rfl) : CallR X (.type "list") (rListOf K) := by subst h; exact call_list_of
def rTupleOf (K : PySem.W.Frag) : List V → Hp → VK → Prop := fun xs H Q => ∃ p ys, xs = [.ref p] ∧ ((SqL K H p ys ∧ ∀ l, H l = none → Q (.ref l) (upd H l (.tup ys))) ∨ (SqT K H p ys ∧ Q (.ref p) H))
theorem kc_tuple (h : X.K = K := by rfl) : CallR X (.type "tuple") (rTupleOf K) := by subst h; exact call_tuple_of
theorem kc_sum (hc : X.calm = true := by rfl) (h : X.K = K := by rfl) : CallR X (.builtin "sum") (rSum K) := h ▸ cr_sum hc
theorem kc_all (hc : X.calm = true := by rfl) (h : X.K = K := by rfl) : CallR X (.builtin "all") (rAll K) := h ▸ cr_all hc
theorem kc_any (hc : X.calm = true := by rfl) (h : X.K = K := by rfl) : CallR X (.builtin "any") (rAny K) := h ▸ cr_any hc
theorem kc_sorted (h : X.K = K := by rfl) : CallR X (.builtin "sorted") (rSorted K) := h ▸ cr_sorted
theorem kc_sortedS (h : X.K = K := by rfl) : CallR X (.builtin "sorted") (rSortedS K) := h ▸ cr_sortedS
theorem kc_isi (h : X.K = K := by rfl) : CallR X (.builtin "isinstance") (rIsi K) := h ▸ call_isi
theorem kc_isiT (h : X.K = K := by rfl) : CallR X (.builtin "isinstance") (rIsiT K) := h ▸ call_isiT
theorem kc_repr (gd : X.A.guards = some []) (hu : X.A.units + 64 < cLine) (h : X.K = K := by rfl) : CallR X (.builtin "repr") (rRepr K) := h ▸ cr_repr gd hu
theorem kc_setLi {w : World} (hc : X.calm = true := by rfl) (h : X.K = K := by rfl) (hw : X.w = w := by rfl) : CallR X (.type "set") (rSetLi K w) := by subst h; subst hw; exact cr_setLi hc
theorem kc_sortedSet {w : World} (hc : X.calm = true := by rfl) (hw : X.w = w := by rfl) : CallR X (.builtin "sorted") (rSortedSet w) := hw ▸ cr_sortedSet hc
theorem ki_list {tg l : Expr} {tl : TE} (hl : PE X l tl) (h : X.K = K := by rfl) : PI X tg l (iList K tl) := h ▸ pi_list hl
theorem ki_tup {tg l : Expr} {tl : TE} (hl : PE X l tl) (h : X.K = K := by rfl) : PI X tg l (iTup K tl) := h ▸ pi_tup hl
theorem ki_zip {e e2 : Expr} {ta : TA} {p pos tpos : Pos} {elts : List Expr} {kk : Nat} (hg : Gl X "zip") (hm : X.mg "zip" = none) (ha : PA X [e, e2] ta) (hs : starEach [e, e2] X.env = (false, eval e X.env) :: starEach [e2] X.env := by rfl)
    (hpl : (backTo pos (starEach [e2] X.env)).any (·.1) = false := by rfl) (h : X.K = K := by rfl) : PI X (.Tuple elts kk tpos) (.Call (.Name "zip" p) [e, e2] [] pos) (RZ.iZipA K ta) := h ▸ RZ.pi_zipA hg hm ha hs hpl
theorem ki_enum {e : Expr} {ta : TA} {p pos tpos : Pos} {elts : List Expr} {kk : Nat} (hg : Gl X "enumerate") (hm : X.mg "enumerate" = none) (ha : PA X [e] ta) (hs : starEach [e] X.env = [(false, eval e X.env)] := by rfl) (h : X.K = K := by rfl)
    : PI X (.Tuple elts kk tpos) (.Call (.Name "enumerate" p) [e] [] pos) (iEnum K ta) := h ▸ pi_enum hg hm ha hs
theorem kg_tup {pos : Pos} {es : List Expr} {k : Nat} {t : TGs} {n : Nat} (h : PGs X es t) (hc : X.calm = true := by rfl) (hn : (assignEach es X.env).length = n := by rfl) (hst : (assignEach es X.env).findIdx? (·.1) = none := by rfl) (hk : X.K = K := by rfl) : PG X (.Tuple es k pos) (gTup K n t) := hk ▸ pg_tup hc h hn hst
def tTru (K : PySem.W.Frag) (ta : TE) : TT := fun σ H Q => ta σ H fun x H' => ∃ k, TruV K x H' k ∧ Q k H'
theorem kt_truth {a : Expr} {ta : TE} (ha : PE X a ta) (he : ∀ whole, isTrue a X.env whole = (do let v ← whole; standAt a.pos; holding [v] (truthy v)) := by intro _; rfl) (h : X.K = K := by rfl) : PT X a (tTru K ta) := by subst h; exact pt_truth ha he
def rJoin (K : PySem.W.Frag) : V → List V → Hp → VK → Prop := fun x xs H Q => ∃ a p, ∃ ys : List Str, x = .str a ∧ xs = [.ref p] ∧ (SqL K H p (ys.map V.str) ∨ SqT K H p (ys.map V.str)) ∧ (ys.map (·.length)).sum + ys.length * a.length ≤ 16777216 ∧ Q (.str (Txt.join a ys)) H
theorem ke_join {o e : Expr} {to te : TE} {apos pos : Pos} (ho : PE X o to) (he : PE X e te) (hs : starEach [e] X.env = [(false, eval e X.env)] := by rfl) (hbase : attributeBase o "join" X.env (eval o X.env) = eval o X.env := by rfl) (hline : (apos.endLine == pos.line) = true := by rfl) (h : X.K = K := by rfl) :
    PE X (.Call (.Attribute o "join" apos) [e] [] pos) (tM1 (rJoin K) to te) := by subst h; exact pe_join ho he hs hbase hline
theorem pss_never {st : List Stmt} : PSs X st (fun _ _ _ => False) := ⟨fun _ _ _ _ _ _ h => h.elim⟩
theorem ps_never {st : Stmt} : PS X st (fun _ _ _ => False) := ⟨fun _ _ _ _ _ _ h => h.elim⟩
theorem pe_never {e : Expr} : PE X e (fun _ _ _ => False) := ⟨fun _ _ _ _ _ _ h => h.elim⟩
theorem tYes_at {σ : L2.St} {H : Hp} {Q : Bool → Hp → Prop} (h : Q true H) : tYes σ H Q := h
end
end Pot

namespace Pot
open PySem PySem.Spec PyProof.Rows L2
/-- built-in names that the module gives no other meaning -/
structure Txt (mg : Str → Option Value) : Prop where
  len : mg "len" = none
  divmod : mg "divmod" = none
  range : mg "range" = none
  sum : mg "sum" = none
  all : mg "all" = none
  any : mg "any" = none
  isinstance : mg "isinstance" = none
  str : mg "str" = none
  int : mg "int" = none
  list : mg "list" = none
  tuple : mg "tuple" = none
  bool : mg "bool" = none
  zip : mg "zip" = none
  set : mg "set" = none
  sorted : mg "sorted" = none
  enumerate : mg "enumerate" = none
  repr : mg "repr" = none
  min : mg "min" = none
  max : mg "max" = none
  abs : mg "abs" = none
/-- a def that may be called by its name: what it keeps, at which level -/
def Cl (P : Program) (w : World) (K : PySem.W.Frag) (mg : Str → Option Value) (base : Heap) (k : Nat) (x : Str) (sp : Sp) : Prop :=
  ∃ (f : Addr) (fd : FuncData) (ps : List Str), FnOk P w K mg base CX0 k f fd ps sp ∧ mg x = some (.ref f) ∧ PySem.W.keepIn K (.ref f) = true ∧ Binds K fd ps []
theorem pe_cl {X : Cx} {k j : Nat} {x : Str} {sp : Sp} {e : Expr} {es : List Expr} {t : TA} {p pos : Pos} (c : Cl X.prog X.w X.K X.mg X.base k x sp) (hr : Room j X.A) (hk : k ≤ j) (hg : Gl X x) (ha : PA X (e :: es) t) (hdb : (x == ("__debug__" : Str)) = false := by decide)
    (he : starEach (e :: es) X.env = (false, eval e X.env) :: starEach es X.env := by rfl) (hpl : (backTo pos (starEach es X.env)).any (·.1) = false := by rfl) : PE X (.Call (.Name x p) (e :: es) [] pos) (tCall sp [] E0 t) := by
  obtain ⟨f, fd, ps, G, hm, kp, b⟩ := c
  exact pe_call G (hr.mono hk) hg hm kp b .nil pass0 ha hdb he hpl
/-! ### the drawing state -/
def dS (c : Addr) (t : Int) : List (Key × V) := [(Sum.inr "cells", .ref c), (Sum.inr "turn", .int t)]
/-- at d stands a state of the law: its cells at c, its turn at most n -/
def StAt (H : Hp) (d c : Addr) (n : Nat) : Prop := d ≠ c ∧ ∃ (xs : List Int) (t : Int),
  H d = some (.dK (dS c t)) ∧ H c = some (.lst (xs.map V.int)) ∧ xs ≠ [] ∧ xs.length ≤ 63 ∧ 0 ≤ t ∧ t ≤ n
/-- all that was tracked stands, but d and c -/
def Kp (d c : Addr) (H H' : Hp) : Prop := ∀ b o, b ≠ d → b ≠ c → H b = some o → H' b = some o
theorem Kp.refl (d c : Addr) (H : Hp) : Kp d c H H := fun _ _ _ _ e => e
theorem Kp.trans {d c : Addr} {H H1 H2 : Hp} (a : Kp d c H H1) (b : Kp d c H1 H2) : Kp d c H H2 := fun x o h1 h2 e => b x o h1 h2 (a x o h1 h2 e)
theorem Kp.of {d c : Addr} {H H' : Hp} (s : Same H H') : Kp d c H H' := fun x o _ _ e => s x o e
theorem same_upd {H : Hp} {p : Addr} {o : HO} (h : H p = none) : Same H (upd H p o) := fun b x e => by
  rw [upd_ne (ne_of_none e h)]
  exact e
theorem same_put {H H' : Hp} {p : Addr} {o : HO} (s : Same H H') (h : H p = none) : Same H (upd H' p o) := fun b x e => by
  rw [upd_ne (ne_of_none e h)]
  exact s b x e
theorem kp_put {d c : Addr} {H H' : Hp} {p : Addr} {o : HO} (s : Kp d c H H') (h : H p = none) : Kp d c H (upd H' p o) := fun b x h1 h2 e => by
  rw [upd_ne (ne_of_none e h)]
  exact s b x h1 h2 e
theorem StAt.mono {H : Hp} {d c : Addr} {n m : Nat} (h : StAt H d c n) (k : n ≤ m) : StAt H d c m := by
  obtain ⟨h0, xs, t, h1, h2, h3, h4, h5, h6⟩ := h
  exact ⟨h0, xs, t, h1, h2, h3, h4, h5, by omega⟩
theorem StAt.same {H H' : Hp} {d c : Addr} {n : Nat} (h : StAt H d c n) (s : Same H H') : StAt H' d c n := by
  obtain ⟨h0, xs, t, h1, h2, h3, h4, h5, h6⟩ := h
  exact ⟨h0, xs, t, s _ _ h1, s _ _ h2, h3, h4, h5, h6⟩
theorem Kp.free {d c : Addr} {H H' : Hp} {n : Nat} {l : Addr} (k : Kp d c H H') (s : StAt H' d c n) (h : H' l = none) : H l = none := by
  obtain ⟨_, xs, t, h1, h2, _⟩ := s
  have n1 : l ≠ d := (ne_of_none h1 h).symm
  have n2 : l ≠ c := (ne_of_none h2 h).symm
  cases e : H l with
  | none => rfl
  | some o =>
    rw [k l o n1 n2 e] at h
    cases h
theorem StAt.ne1 {H : Hp} {d c : Addr} {n : Nat} {l : Addr} (s : StAt H d c n) (h : H l = none) : d ≠ l := by
  obtain ⟨_, xs, t, h1, h2, _⟩ := s
  exact ne_of_none h1 h
theorem StAt.ne2 {H : Hp} {d c : Addr} {n : Nat} {l : Addr} (s : StAt H d c n) (h : H l = none) : c ≠ l := by
  obtain ⟨_, xs, t, h1, h2, _⟩ := s
  exact ne_of_none h2 h
theorem StAt.put {H : Hp} {d c : Addr} {n : Nat} {l : Addr} {o : HO} (s : StAt H d c n) (n1 : d ≠ l) (n2 : c ≠ l) : StAt (upd H l o) d c n := by
  obtain ⟨h0, xs, t, h1, h2, h3, h4, h5, h6⟩ := s
  exact ⟨h0, xs, t, by rw [upd_ne n1]; exact h1, by rw [upd_ne n2]; exact h2, h3, h4, h5, h6⟩
theorem val_turn (c : Addr) (t : Int) : valV (dS c t) (Sum.inr "turn") = some (.int t) := by
  have e : ¬ ((Sum.inr (Str.ofString "cells") : Key) = Sum.inr (Str.ofString "turn")) := by decide +kernel
  unfold dS; rw [valV_neg e, valV_pos rfl]
theorem val_cells (c : Addr) (t : Int) : valV (dS c t) (Sum.inr "cells") = some (.ref c) := by
  unfold dS; rw [valV_pos rfl]
theorem put_turn (c : Addr) (t u : Int) : putK (dS c t) (Sum.inr "turn") (.int u) = dS c u := by
  have e : ¬ ((Sum.inr (Str.ofString "cells") : Key) = Sum.inr (Str.ofString "turn")) := by decide +kernel
  unfold putK dS
  simp [e]

theorem dget_turn {H : Hp} {d c : Addr} {t : Int} (h : H d = some (.dK (dS c t))) : DGet H d (.str "turn") (some (.int t)) := by
  rw [← val_turn c t]; exact DGet.k (k := Sum.inr "turn") h
theorem dget_cells {H : Hp} {d c : Addr} {t : Int} (h : H d = some (.dK (dS c t))) : DGet H d (.str "cells") (some (.ref c)) := by
  rw [← val_cells c t]; exact DGet.k (k := Sum.inr "cells") h
theorem dput_turn {H : Hp} {d c : Addr} {t : Int} (u : Int) (h : H d = some (.dK (dS c t))) : DPut H d (.str "turn") (.int u) (upd H d (.dK (dS c u))) := by
  rw [← put_turn c t u]; exact DPut.k (k := Sum.inr "turn") h (by show 2 < sizeLine; decide)
theorem ge18 (x : Int) : (decide ((10 : Int) ^ (18 : Int).toNat ≤ x) = true) ↔ 1000000000000000000 ≤ x := by
  have e : (10 : Int) ^ (18 : Int).toNat = 1000000000000000000 := by decide
  rw [e, decide_eq_true_eq]
theorem cmul_mod (a b : Int) {m : Int} (h0 : 0 < m) (h1 : m < 2 ^ 64) : CMul (a % m) b := by
  have p := Int.emod_nonneg a (show m ≠ 0 by omega)
  have q := Int.emod_lt_of_pos a h0
  exact .inl ⟨by omega, by omega⟩
theorem mod_at {xs : List Int} {u : Int} (hx : xs ≠ []) : ∃ (j : Nat) (y : Int), u % ((xs.map V.int).length : Int) = (j : Int) ∧ j < xs.length ∧ xs[j]? = some y := by
  have h0 : 0 < xs.length := List.length_pos_iff.mpr hx
  rw [List.length_map]
  have a := Int.emod_nonneg u (show (xs.length : Int) ≠ 0 by omega)
  have b := Int.emod_lt_of_pos u (show (0 : Int) < (xs.length : Int) by omega)
  refine ⟨(u % (xs.length : Int)).toNat, xs[(u % (xs.length : Int)).toNat]'(by omega), by omega, by omega, ?_⟩
  exact List.getElem?_eq_getElem _

section
variable {K : PySem.W.Frag}
theorem cut63 {xs : List V} (h : xs.length ≤ 63) : cutV xs none (some 63) = xs := by
  unfold cutV
  rw [HT.sIx_none, show HT.sIx xs.length xs.length (some 63) = min 63 xs.length from HT.sIx_nat xs.length xs.length 63, Nat.min_eq_right h]
  simp
theorem dp_ints {H : Hp} (ns : List Int) : DpAll K H (ns.map V.int) (ns.map PyData.int) := by
  induction ns with
  | nil => exact .nil
  | cons n r ih => exact .cons (.int n) ih
theorem same_tup {H H' : Hp} {a : Addr} {xs : List V} (e : Same H H') (h : SqT K H a xs) : SqT K H' a xs := by
  rcases h with (h | ⟨o, h⟩) | h
  · exact .inl (.inl (e _ _ h))
  · exact .inl (.inr ⟨o, e _ _ h⟩)
  · exact .inr h
mutual
theorem dp_same {H H' : Hp} (s : Same H H') : ∀ {v : V} {d : PyData}, Dp K H v d → Dp K H' v d
  | _, _, .non => .non
  | _, _, .bl b => .bl b
  | _, _, .int i => .int i
  | _, _, .str x => .str x
  | _, _, .lst h a => .lst (s.seq h) (dpAll_same s a)
  | _, _, .tup h a => .tup (same_tup s h) (dpAll_same s a)
theorem dpAll_same {H H' : Hp} (s : Same H H') : ∀ {vs : List V} {ds : List PyData}, DpAll K H vs ds → DpAll K H' vs ds
  | _, _, .nil => .nil
  | _, _, .cons h t => .cons (dp_same s h) (dpAll_same s t)
end
theorem dpAll_len {H : Hp} : ∀ {vs : List V} {ds : List PyData}, DpAll K H vs ds → vs.length = ds.length
  | _, _, .nil => rfl
  | _, _, .cons _ t => by rw [List.length_cons, List.length_cons, dpAll_len t]
theorem dpAll_at {H : Hp} : ∀ {vs : List V} {ds : List PyData} {i : Nat} {v : V}, DpAll K H vs ds → vs[i]? = some v → ∃ d, ds[i]? = some d ∧ Dp K H v d
  | _, _, _, _, .nil, h => by simp at h
  | _, _, 0, _, .cons h _, e => ⟨_, rfl, by cases e; exact h⟩
  | _, _, i + 1, _, .cons _ t, e => dpAll_at (i := i) t e
theorem depth_at : ∀ {ds : List PyData} {i : Nat} {d : PyData}, ds[i]? = some d → d.depth ≤ PyData.depthAll ds
  | [], _, _, h => by simp at h
  | x :: r, 0, d, h => by cases h; unfold PyData.depthAll; exact Nat.le_max_left ..
  | x :: r, i + 1, d, h => by
    have := depth_at (ds := r) (i := i) (d := d) h
    unfold PyData.depthAll
    exact Nat.le_trans this (Nat.le_max_right ..)
theorem tyx_list {H : Hp} {a : Addr} {xs : List V} (h : SqL K H a xs) : TyX K H (.ref a) (.type "list") := by
  rcases h with (h | ⟨o, h⟩) | ⟨o, its, n, h1, h2, _⟩
  · exact .base (.lst h)
  · exact .base (.frz h)
  · exact .kList h1 h2
theorem tyx_tup {H : Hp} {a : Addr} {xs : List V} (h : SqT K H a xs) : TyX K H (.ref a) (.type "tuple") := by
  rcases h with (h | ⟨o, h⟩) | ⟨o, its, n, h1, h2, _⟩
  · exact .base (.tup h)
  · exact .fTuple h
  · exact .kTuple h1 h2
theorem walk_zipT {a b : Addr} {xs ys : List V} {n : Nat} (hn : n = min xs.length ys.length) : Walk (RZ.ItzT K a b) n (fun H => SqT K H a xs ∧ SqT K H b ys) (YPair (fun i => xs[i]?) (fun i => ys[i]?)) := by
  subst hn
  refine ⟨fun i _ hi q => ?_, fun _ q => ⟨xs, ys, q.1, q.2, by omega⟩, fun i H v H' _ q y => ?_⟩
  · exact ⟨xs, ys, xs[i]'(by omega), ys[i]'(by omega), q.1, q.2, List.getElem?_eq_getElem _, List.getElem?_eq_getElem _⟩
  · obtain ⟨T, x, z, e1, e2, e3, e4, e5⟩ := y
    exact ⟨T, x, z, e1, e2, e3, e4 xs q.1, e5 ys q.2⟩
/-- the longest list within -/
def widAll : List PyData → Nat
  | [] => 0
  | x :: xs => max (wid x) (widAll xs)
where wid : PyData → Nat
  | .list xs => max xs.length (widAll xs)
  | .tuple xs => max xs.length (widAll xs)
  | _ => 0
theorem wid_at : ∀ {ds : List PyData} {i : Nat} {d : PyData}, ds[i]? = some d → widAll.wid d ≤ widAll ds
  | [], _, _, h => by simp at h
  | x :: r, 0, d, h => by cases h; unfold widAll; exact Nat.le_max_left ..
  | x :: r, i + 1, d, h => by
    have := wid_at (ds := r) (i := i) (d := d) h
    unfold widAll
    exact Nat.le_trans this (Nat.le_max_right ..)
theorem depth_ints (ns : List Int) : (PyData.list (ns.map PyData.int)).depth = 1 := by
  have h : ∀ l : List Int, PyData.depthAll (l.map PyData.int) = 0 := by
    intro l
    induction l with
    | nil => rfl
    | cons x r ih =>
      show max 0 (PyData.depthAll (r.map PyData.int)) = 0
      rw [ih]
      rfl
  show PyData.depthAll (ns.map PyData.int) + 1 = 1
  rw [h]
theorem wid_ints (ns : List Int) : widAll.wid (PyData.list (ns.map PyData.int)) = ns.length := by
  have h : ∀ l : List Int, widAll (l.map PyData.int) = 0 := by
    intro l
    induction l with
    | nil => rfl
    | cons x r ih =>
      show max 0 (widAll (r.map PyData.int)) = 0
      rw [ih]
      rfl
  show max (ns.map PyData.int).length (widAll (ns.map PyData.int)) = ns.length
  rw [h, List.length_map, Nat.max_zero]
theorem flat_ints (ns : List Int) : (ns.map V.int).all flatV = true := by
  rw [List.all_eq_true]
  intro x hx
  obtain ⟨k, _, rfl⟩ := List.mem_map.mp hx
  rfl
end
section
variable {P : Program} {w : World} {K : PySem.W.Frag} {mg : Str → Option Value} {base : Heap}
/-- a def with values that may be left out -/
abbrev FunV (K : PySem.W.Frag) (x : Str) (st : Stmt) (dvs : List V) (f : Addr) (fd : FuncData) : Prop := FunD K x x (defArgs st) (defBody st) (defScope st) dvs [] f fd
theorem okD {x : Str} {st : Stmt} {dvs : List V} {f : Addr} {fd : FuncData} {N ps : List Str} {k : Nat} {sp : Sp} (F : FunV K x st dvs f fd) (S : FnScope N ps (defScope st)) (len : ∀ vs H Q E, sp vs H Q E → vs.length = ps.length)
    (body : ∀ (cdv : Value) (A : Around) (outer : List Env) (s : Shared) (H : Hp) (vs : List V) (Q : VK) (E : XK), Room k (A.deeper (envOfC x (defScope st) s.heap.objs.size f cdv)) → sp vs H Q E →
      ∃ t, PSs (cxOf CX0 P w K mg base N x (defScope st) f cdv A outer s H E).nox (defBody st) t ∧ t { nx := fun _ H' => Q .non H', rt := Q } (start N vs) H) : FnOk P w K mg base CX0 (k + 1) f fd ps sp :=
  FunD.ok F S len fun cdv A outer s H vs Q E hr h => by
    obtain ⟨t, ht, hq⟩ := body cdv A outer s H vs Q E hr h
    exact ⟨t, ht.nox, hq⟩
/-- a def that may be called by its name, the values ds being left out -/
def ClD (P : Program) (w : World) (K : PySem.W.Frag) (mg : Str → Option Value) (base : Heap) (k : Nat) (x : Str) (ds : List V) (sp : Sp) : Prop :=
  ∃ (f : Addr) (fd : FuncData) (ps : List Str) (dus : List Value), FnOk P w K mg base CX0 k f fd ps sp ∧ mg x = some (.ref f) ∧ PySem.W.keepIn K (.ref f) = true ∧ Binds K fd ps dus ∧ Vals ds dus
theorem pe_cd {X : Cx} {k j : Nat} {x : Str} {ds : List V} {sp : Sp} {e : Expr} {es : List Expr} {t : TA} {p pos : Pos} (c : ClD X.prog X.w X.K X.mg X.base k x ds sp) (hr : Room j X.A) (hk : k ≤ j) (hg : Gl X x) (ha : PA X (e :: es) t) (hdb : (x == ("__debug__" : Str)) = false := by decide)
    (he : starEach (e :: es) X.env = (false, eval e X.env) :: starEach es X.env := by rfl) (hpl : (backTo pos (starEach es X.env)).any (·.1) = false := by rfl) : PE X (.Call (.Name x p) (e :: es) [] pos) (tCall sp ds E0 t) := by
  obtain ⟨f, fd, ps, dus, G, hm, kp, b, dv⟩ := c
  exact pe_call G (hr.mono hk) hg hm kp b dv pass0 ha hdb he hpl
theorem Cl.mono {k j : Nat} {x : Str} {sp : Sp} (c : Cl P w K mg base k x sp) (h : k ≤ j) : Cl P w K mg base j x sp := by
  obtain ⟨f, fd, ps, G, r⟩ := c
  exact ⟨f, fd, ps, G.mono h, r⟩
end
end Pot

namespace Pot
open PySem PySem.Spec PyProof.Rows L2
/-! ### a box of three numbers from which is drawn, and all that stands beside it -/
def Bx (H : Hp) (b : Addr) : Prop := ∃ x y z : Int, H b = some (.lst [.int x, .int y, .int z])
/-- the heap without some -/
def off (H : Hp) (S : List Addr) : Hp := fun x => if x ∈ S then none else H x
theorem off_in {H : Hp} {S : List Addr} {x : Addr} (h : x ∈ S) : off H S x = none := if_pos h
theorem off_out {H : Hp} {S : List Addr} {x : Addr} (h : x ∉ S) : off H S x = H x := if_neg h
theorem off_mem {H : Hp} {S : List Addr} {x : Addr} {o : HO} (h : off H S x = some o) : x ∉ S := fun e => by rw [off_in e] at h; cases h
theorem off_sub {H : Hp} {S : List Addr} : Same (off H S) H := fun x o h => by
  have n := off_mem h
  rw [off_out n] at h; exact h
theorem off_mono {H : Hp} {S T : List Addr} (h : ∀ x ∈ T, x ∈ S) : Same (off H S) (off H T) := fun x o e => by
  have n := off_mem e
  rw [off_out n] at e
  rw [off_out fun z => n (h x z)]; exact e
/-- what stands beside S stands -/
abbrev Sm (S : List Addr) (H H' : Hp) : Prop := Same (off H S) (off H' S)
theorem sm_mono {H H' : Hp} {S T : List Addr} (h : ∀ x ∈ T, x ∈ S) (s : Sm T H H') : Sm S H H' := fun x o e => by
  have n := off_mem e
  rw [off_out n] at e ⊢
  have n2 : x ∉ T := fun z => n (h x z)
  have := s x o (by rw [off_out n2]; exact e)
  rw [off_out n2] at this; exact this
theorem sm_one {H H' : Hp} {S : List Addr} {b : Addr} (h : b ∈ S) (s : Sm [b] H H') : Sm S H H' := sm_mono (fun x hx => by rw [List.mem_singleton.mp hx]; exact h) s
theorem sm_of {H H' : Hp} {S : List Addr} (s : Same H H') : Sm S H H' := fun x o h => by
  have n := off_mem h
  rw [off_out n] at h ⊢; exact s x o h
theorem sm_put {H : Hp} {S : List Addr} {p : Addr} {o : HO} (h : H p = none) : Sm S H (upd H p o) := sm_of (same_upd h)
theorem sm_wr {H : Hp} {S : List Addr} {p : Addr} {o : HO} (h : p ∈ S) : Sm S H (upd H p o) := fun x u e => by
  have n := off_mem e
  rw [off_out n] at e ⊢
  have ne : x ≠ p := fun z => n (by rw [z]; exact h)
  rw [upd_ne ne]; exact e
theorem at_off {H : Hp} {S : List Addr} {x : Addr} {o : HO} (h : off H S x = some o) : H x = some o := off_sub x o h
theorem Bx.bx {H : Hp} {b : Addr} (B : Bx H b) : Bx H b := B
theorem Bx.ne {H : Hp} {b p : Addr} (B : Bx H b) (h : H p = none) : p ≠ b := fun e => by
  obtain ⟨x, y, z, B⟩ := B
  rw [e, B] at h; cases h
theorem Bx.same {H H' : Hp} {b : Addr} (B : Bx H b) (s : Same H H') : Bx H' b := by
  obtain ⟨x, y, z, B⟩ := B
  exact ⟨x, y, z, s _ _ B⟩
theorem Bx.put {H : Hp} {b p : Addr} {o : HO} (B : Bx H b) (h : H p = none) : Bx (upd H p o) b := B.same (same_upd h)
theorem Bx.wr {H : Hp} {b p : Addr} {o : HO} (B : Bx H b) (h : p ≠ b) : Bx (upd H p o) b := by
  obtain ⟨x, y, z, B⟩ := B
  exact ⟨x, y, z, by rw [upd_ne h.symm]; exact B⟩
/-- all of S are there -/
def Live (S : List Addr) (H : Hp) : Prop := ∀ s ∈ S, H s ≠ none
theorem Live.same {S : List Addr} {H H' : Hp} (L : Live S H) (s : Same H H') : Live S H' := fun x hx e => by
  cases h : H x with
  | none => exact L x hx h
  | some o => rw [s x o h] at e; cases e
theorem Live.box {S : List Addr} {H H' : Hp} {b : Addr} (L : Live S H) (B : Bx H' b) (s : Sm [b] H H') : Live S H' := fun x hx e => by
  by_cases hb : x = b
  · obtain ⟨_, _, _, B⟩ := B
    rw [hb, B] at e; cases e
  · have n : x ∉ [b] := fun z => hb (List.mem_singleton.mp z)
    cases h : H x with
    | none => exact L x hx h
    | some o =>
      have := s x o (by rw [off_out n]; exact h)
      rw [off_out n, e] at this; cases this
theorem Live.put {S : List Addr} {H : Hp} {p : Addr} {o : HO} (L : Live S H) (h : H p = none) : Live S (upd H p o) := L.same (same_upd h)
theorem Live.wr {S : List Addr} {H : Hp} {p : Addr} {o : HO} (L : Live S H) : Live S (upd H p o) := fun x hx e => by
  by_cases hp : x = p
  · rw [hp, upd_same] at e; cases e
  · rw [upd_ne hp] at e; exact L x hx e
theorem Live.one {H : Hp} {b : Addr} (B : Bx H b) : Live [b] H := fun x hx e => by
  obtain ⟨_, _, _, B⟩ := B
  rw [List.mem_singleton.mp hx, B] at e; cases e
theorem Live.out {S : List Addr} {H : Hp} {p : Addr} (L : Live S H) (h : H p = none) : p ∉ S := fun z => L p z h
theorem Live.cons {S : List Addr} {H : Hp} {p : Addr} {o : HO} (L : Live S H) (h : H p = some o) : Live (p :: S) H := fun x hx e => by
  rcases List.mem_cons.mp hx with z | z
  · rw [z, h] at e; cases e
  · exact L x z e
theorem off_new {H : Hp} {S : List Addr} {p : Addr} {o : HO} (L : Live S H) (h : H p = none) : off (upd H p o) S p = some o := by
  rw [off_out (L.out h)]; exact upd_same
theorem off_upd {H : Hp} {S : List Addr} {p : Addr} {o : HO} (h : p ∉ S) : off (upd H p o) S p = some o := by
  rw [off_out h]; exact upd_same
section
variable {K : PySem.W.Frag}
theorem sq_off {H : Hp} {S : List Addr} {a : Addr} {xs : List V} (h : SqL K (off H S) a xs) : SqL K H a xs := off_sub.seq h
theorem sqt_off {H : Hp} {S : List Addr} {a : Addr} {xs : List V} (h : SqT K (off H S) a xs) : SqT K H a xs := same_tup off_sub h
theorem dp_off {H : Hp} {S : List Addr} {v : V} {d : PyData} (h : Dp K (off H S) v d) : Dp K H v d := dp_same off_sub h
/-- a new list is none of S, beside which the rest stands as it was -/
theorem off_fresh {H : Hp} {S : List Addr} {p : Addr} {o : HO} (h : H p = none) : off (upd H p o) (p :: S) = off H S := by
  funext x; unfold off
  by_cases e : x = p
  · subst e
    rw [if_pos List.mem_cons_self, h]
    split <;> rfl
  · have : (x ∈ p :: S) ↔ x ∈ S := by rw [List.mem_cons]; exact ⟨fun z => z.resolve_left e, .inr⟩
    by_cases m : x ∈ S
    · rw [if_pos m, if_pos (this.mpr m)]
    · rw [if_neg m, if_neg fun z => m (this.mp z), upd_ne e]
end
/-! ### what is made of numbers, texts, truths, None, lists and tuples -/
/-- numbers within m, texts of at most 2000 signs -/
def gdAll (m : Nat) : List PyData → Prop
  | [] => True
  | x :: xs => gd m x ∧ gdAll m xs
where gd (m : Nat) : PyData → Prop
  | .none => True
  | .bool _ => True
  | .int i => i.natAbs ≤ m
  | .str x => x.length ≤ 2000 ∧ ∀ c ∈ x.cps.toList, c < 1114112
  | .list xs => gdAll m xs
  | .tuple xs => gdAll m xs
  | .dict _ => False
abbrev gd (m : Nat) (d : PyData) : Prop := gdAll.gd m d
theorem gdAll_iff {m : Nat} : ∀ {ds : List PyData}, gdAll m ds ↔ ∀ d ∈ ds, gd m d
  | [] => ⟨fun _ _ h => (List.not_mem_nil h).elim, fun _ => trivial⟩
  | x :: xs => by
    constructor
    · intro h d hd
      rcases List.mem_cons.mp hd with e | e
      · rw [e]; exact h.1
      · exact gdAll_iff.mp h.2 d e
    · intro h
      exact ⟨h x List.mem_cons_self, gdAll_iff.mpr fun d hd => h d (List.mem_cons_of_mem _ hd)⟩
mutual
theorem gd_mono {m n : Nat} (h : m ≤ n) : ∀ d : PyData, gd m d → gd n d
  | .none, _ => trivial
  | .bool _, _ => trivial
  | .int i, g => Nat.le_trans g h
  | .str _, g => g
  | .list xs, g => gdAll_mono h xs g
  | .tuple xs, g => gdAll_mono h xs g
  | .dict _, g => g.elim
theorem gdAll_mono {m n : Nat} (h : m ≤ n) : ∀ ds : List PyData, gdAll m ds → gdAll n ds
  | [], _ => trivial
  | x :: xs, g => ⟨gd_mono h x g.1, gdAll_mono h xs g.2⟩
end
theorem log_small' {i : Int} (h : i.natAbs ≤ 2000000) : i.natAbs.log2 < 1920 := by
  by_cases z : i.natAbs = 0
  · rw [z]; decide
  · have := (Nat.log2_lt z).mpr (show i.natAbs < 2 ^ 21 from Nat.lt_of_le_of_lt h (by decide))
    omega
mutual
theorem gd_fine {m : Nat} (h : m ≤ 2000000) : ∀ d : PyData, gd m d → fineAll.fine d
  | .none, _ => trivial
  | .bool _, _ => trivial
  | .int i, g => log_small' (Nat.le_trans g h)
  | .str _, g => fun c hc => Nat.lt_trans (g.2 c hc) (by decide)
  | .list xs, g => gdAll_fine h xs g
  | .tuple xs, g => gdAll_fine h xs g
  | .dict _, g => g.elim
theorem gdAll_fine {m : Nat} (h : m ≤ 2000000) : ∀ ds : List PyData, gdAll m ds → fineAll ds
  | [], _ => trivial
  | x :: xs, g => ⟨gd_fine h x g.1, gdAll_fine h xs g.2⟩
end
theorem costAll_app (xs ys : List PyData) : costAll (xs ++ ys) = costAll xs + costAll ys := by
  induction xs with
  | nil => simp [costAll]
  | cons x xs ih => simp only [List.cons_append, costAll, ih]; omega
theorem cost_mem {ds : List PyData} {d : PyData} (h : d ∈ ds) : costAll.cost d + 2 ≤ costAll ds := by
  induction ds with
  | nil => exact (List.not_mem_nil h).elim
  | cons x xs ih =>
    show _ ≤ costAll.cost x + 2 + costAll xs
    rcases List.mem_cons.mp h with e | e
    · rw [e]; omega
    · have := ih e; omega
theorem len_cost : ∀ ds : List PyData, 2 * ds.length ≤ costAll ds
  | [] => Nat.le_refl _
  | x :: xs => by
    have := len_cost xs
    show 2 * (xs.length + 1) ≤ costAll.cost x + 2 + costAll xs
    omega
theorem depthAll_iff {D : Nat} : ∀ {ds : List PyData}, PyData.depthAll ds ≤ D ↔ ∀ d ∈ ds, d.depth ≤ D
  | [] => ⟨fun _ _ h => (List.not_mem_nil h).elim, fun _ => Nat.zero_le _⟩
  | x :: xs => by
    show max x.depth (PyData.depthAll xs) ≤ D ↔ _
    rw [Nat.max_le, depthAll_iff (ds := xs)]
    constructor
    · rintro ⟨h1, h2⟩ d hd
      rcases List.mem_cons.mp hd with e | e
      · rw [e]; exact h1
      · exact h2 d e
    · intro h
      exact ⟨h x List.mem_cons_self, fun d hd => h d (List.mem_cons_of_mem _ hd)⟩
/-- rows of parts: of numbers within m, their cost, how deep and how wide each -/
structure Ths (m C D W : Nat) (ds : List PyData) : Prop where
  g : ∀ d ∈ ds, gd m d
  c : costAll ds ≤ C
  d : ∀ d ∈ ds, d.depth ≤ D
  w : ∀ d ∈ ds, widAll.wid d ≤ W
/-- a thing: of numbers within m, its cost, how deep, how wide -/
structure Th (m C D W : Nat) (dd : PyData) : Prop where
  g : gd m dd
  c : costAll.cost dd ≤ C
  d : dd.depth ≤ D
  w : widAll.wid dd ≤ W
theorem widAll_iff {D : Nat} : ∀ {ds : List PyData}, widAll ds ≤ D ↔ ∀ d ∈ ds, widAll.wid d ≤ D
  | [] => ⟨fun _ _ h => (List.not_mem_nil h).elim, fun _ => Nat.zero_le _⟩
  | x :: xs => by
    show max (widAll.wid x) (widAll xs) ≤ D ↔ _
    rw [Nat.max_le, widAll_iff (ds := xs)]
    constructor
    · rintro ⟨h1, h2⟩ d hd
      rcases List.mem_cons.mp hd with e | e
      · rw [e]; exact h1
      · exact h2 d e
    · intro h
      exact ⟨h x List.mem_cons_self, fun d hd => h d (List.mem_cons_of_mem _ hd)⟩
section
variable {m n C E D F W U : Nat} {d x : PyData} {ds xs ys : List PyData}
theorem Th.mono (h : Th m C D W d) (a : m ≤ n) (b : C ≤ E) (c : D ≤ F) (e : W ≤ U) : Th n E F U d := ⟨gd_mono a d h.g, Nat.le_trans h.c b, Nat.le_trans h.d c, Nat.le_trans h.w e⟩
theorem Ths.mono (h : Ths m C D W ds) (a : m ≤ n) (b : C ≤ E) (c : D ≤ F) (e : W ≤ U) : Ths n E F U ds := ⟨fun x hx => gd_mono a x (h.g x hx), Nat.le_trans h.c b, fun x hx => Nat.le_trans (h.d x hx) c, fun x hx => Nat.le_trans (h.w x hx) e⟩
theorem Ths.app (h : Ths m C D W xs) (k : Ths m E D W ys) : Ths m (C + E) D W (xs ++ ys) :=
  ⟨fun d hd => (List.mem_append.mp hd).elim (h.g d) (k.g d), by rw [costAll_app]; exact Nat.add_le_add h.c k.c, fun d hd => (List.mem_append.mp hd).elim (h.d d) (k.d d), fun d hd => (List.mem_append.mp hd).elim (h.w d) (k.w d)⟩
theorem Ths.nil : Ths m 0 D W [] := ⟨fun _ h => (List.not_mem_nil h).elim, Nat.le_refl _, fun _ h => (List.not_mem_nil h).elim, fun _ h => (List.not_mem_nil h).elim⟩
theorem Ths.one (h : Th m C D W x) : Ths m (C + 2) D W [x] :=
  ⟨fun d hd => by rw [List.mem_singleton.mp hd]; exact h.g, by show costAll.cost x + 2 + 0 ≤ _; have := h.c; omega, fun d hd => by rw [List.mem_singleton.mp hd]; exact h.d, fun d hd => by rw [List.mem_singleton.mp hd]; exact h.w⟩
theorem Ths.mem (h : Ths m C D W ds) (e : d ∈ ds) : Th m C D W d := ⟨h.g d e, by have := cost_mem e; have := h.c; omega, h.d d e, h.w d e⟩
theorem Ths.len (h : Ths m C D W ds) : 2 * ds.length ≤ C := Nat.le_trans (len_cost ds) h.c
theorem Ths.list (h : Ths m C D W ds) (l : ds.length ≤ W) : Th m (C + 3) (D + 1) W (.list ds) :=
  ⟨gdAll_iff.mpr h.g, by show costAll ds + 3 ≤ _; have := h.c; omega, by show PyData.depthAll ds + 1 ≤ _; have := depthAll_iff.mpr h.d; omega, by show max ds.length (widAll ds) ≤ W; exact Nat.max_le.mpr ⟨l, widAll_iff.mpr h.w⟩⟩
theorem Ths.tuple (h : Ths m C D W ds) (l : ds.length ≤ W) : Th m (C + 3) (D + 1) W (.tuple ds) :=
  ⟨gdAll_iff.mpr h.g, by show costAll ds + 3 ≤ _; have := h.c; omega, by show PyData.depthAll ds + 1 ≤ _; have := depthAll_iff.mpr h.d; omega, by show max ds.length (widAll ds) ≤ W; exact Nat.max_le.mpr ⟨l, widAll_iff.mpr h.w⟩⟩
theorem Th.ofList (h : Th m C D W (.list ds)) : Ths m (C - 3) (D - 1) W ds ∧ ds.length ≤ W ∧ 3 ≤ C ∧ 1 ≤ D := by
  have h1 : costAll ds + 3 ≤ C := h.c
  have h2 : PyData.depthAll ds + 1 ≤ D := h.d
  have h3 : max ds.length (widAll ds) ≤ W := h.w
  exact ⟨⟨gdAll_iff.mp h.g, by omega, depthAll_iff.mp (by omega), widAll_iff.mp (Nat.le_trans (Nat.le_max_right ..) h3)⟩, Nat.le_trans (Nat.le_max_left ..) h3, by omega, by omega⟩
theorem Th.ofTuple (h : Th m C D W (.tuple ds)) : Ths m (C - 3) (D - 1) W ds ∧ ds.length ≤ W ∧ 3 ≤ C ∧ 1 ≤ D := by
  have h1 : costAll ds + 3 ≤ C := h.c
  have h2 : PyData.depthAll ds + 1 ≤ D := h.d
  have h3 : max ds.length (widAll ds) ≤ W := h.w
  exact ⟨⟨gdAll_iff.mp h.g, by omega, depthAll_iff.mp (by omega), widAll_iff.mp (Nat.le_trans (Nat.le_max_right ..) h3)⟩, Nat.le_trans (Nat.le_max_left ..) h3, by omega, by omega⟩
theorem costAll_take (n : Nat) (ds : List PyData) : costAll (ds.take n) ≤ costAll ds := by
  have := costAll_app (ds.take n) (ds.drop n)
  rw [List.take_append_drop] at this; omega
theorem costAll_drop (n : Nat) (ds : List PyData) : costAll (ds.drop n) ≤ costAll ds := by
  have := costAll_app (ds.take n) (ds.drop n)
  rw [List.take_append_drop] at this; omega
theorem costAll_rev : ∀ ds : List PyData, costAll ds.reverse = costAll ds
  | [] => rfl
  | x :: xs => by rw [List.reverse_cons, costAll_app, costAll_rev xs]; show _ + (costAll.cost x + 2 + 0) = costAll.cost x + 2 + costAll xs; omega
theorem Ths.sub (h : Ths m C D W ds) (s : ∀ x ∈ xs, x ∈ ds) (c : costAll xs ≤ C) : Ths m C D W xs := ⟨fun d hd => h.g d (s d hd), c, fun d hd => h.d d (s d hd), fun d hd => h.w d (s d hd)⟩
theorem Ths.take (h : Ths m C D W ds) (n : Nat) : Ths m C D W (ds.take n) := h.sub (fun d hd => List.mem_of_mem_take hd) (Nat.le_trans (costAll_take n ds) h.c)
theorem Ths.drop (h : Ths m C D W ds) (n : Nat) : Ths m C D W (ds.drop n) := h.sub (fun d hd => List.mem_of_mem_drop hd) (Nat.le_trans (costAll_drop n ds) h.c)
theorem Ths.rev (h : Ths m C D W ds) : Ths m C D W ds.reverse := h.sub (fun d hd => List.mem_reverse.mp hd) (by rw [costAll_rev]; exact h.c)
theorem costAll_set : ∀ (ds : List PyData) (i : Nat) (x : PyData), costAll (ds.set i x) ≤ costAll ds + (costAll.cost x + 2)
  | [], _, _ => Nat.zero_le _
  | y :: ys, 0, x => by show costAll.cost x + 2 + costAll ys ≤ costAll.cost y + 2 + costAll ys + _; omega
  | y :: ys, i + 1, x => by
    have := costAll_set ys i x
    show costAll.cost y + 2 + costAll (ys.set i x) ≤ costAll.cost y + 2 + costAll ys + _
    omega
theorem Ths.set {i : Nat} (h : Ths m C D W ds) (k : Th m E D W x) : Ths m (C + E + 2) D W (ds.set i x) :=
  ⟨fun d hd => (List.mem_or_eq_of_mem_set hd).elim (h.g d) fun e => by rw [e]; exact k.g, Nat.le_trans (costAll_set ds i x) (by have := h.c; have := k.c; omega), fun d hd => (List.mem_or_eq_of_mem_set hd).elim (h.d d) fun e => by rw [e]; exact k.d, fun d hd => (List.mem_or_eq_of_mem_set hd).elim (h.w d) fun e => by rw [e]; exact k.w⟩
end
section
variable {K : PySem.W.Frag} {H : Hp}
theorem dpAll_app' : ∀ {xs ys : List V} {ds es : List PyData}, DpAll K H xs ds → DpAll K H ys es → DpAll K H (xs ++ ys) (ds ++ es)
  | _, _, _, _, .nil, h => h
  | _, _, _, _, .cons h t, h2 => .cons h (dpAll_app' t h2)
theorem dpAll_take : ∀ {xs : List V} {ds : List PyData} (n : Nat), DpAll K H xs ds → DpAll K H (xs.take n) (ds.take n)
  | _, _, 0, _ => .nil
  | _, _, _ + 1, .nil => .nil
  | _, _, n + 1, .cons h t => .cons h (dpAll_take n t)
theorem dpAll_drop : ∀ {xs : List V} {ds : List PyData} (n : Nat), DpAll K H xs ds → DpAll K H (xs.drop n) (ds.drop n)
  | _, _, 0, h => h
  | _, _, _ + 1, .nil => .nil
  | _, _, n + 1, .cons _ t => dpAll_drop n t
theorem dpAll_rev : ∀ {xs : List V} {ds : List PyData}, DpAll K H xs ds → DpAll K H xs.reverse ds.reverse
  | _, _, .nil => .nil
  | _, _, .cons h t => by rw [List.reverse_cons, List.reverse_cons]; exact dpAll_app' (dpAll_rev t) (.cons h .nil)
theorem dpAll_set : ∀ {xs : List V} {ds : List PyData} {i : Nat} {v : V} {d : PyData}, DpAll K H xs ds → Dp K H v d → DpAll K H (xs.set i v) (ds.set i d)
  | _, _, _, _, _, .nil, _ => .nil
  | _, _, 0, _, _, .cons _ t, k => .cons k t
  | _, _, _ + 1, _, _, .cons h t, k => .cons h (dpAll_set t k)
/-- a slice of a row of parts -/
theorem dp_cut {xs : List V} {ds : List PyData} {lo hi : Option Int} {m C D W : Nat} (h : DpAll K H xs ds) (t : Ths m C D W ds) : ∃ es, DpAll K H (cutV xs lo hi) es ∧ Ths m C D W es ∧ es.length ≤ ds.length := by
  unfold cutV
  exact ⟨_, dpAll_take _ (dpAll_drop _ h), (t.drop _).take _, by rw [List.length_take, List.length_drop]; omega⟩
theorem dp_lst' {v : V} {ds : List PyData} (h : Dp K H v (.list ds)) : ∃ a xs, v = .ref a ∧ SqL K H a xs ∧ DpAll K H xs ds := by
  cases h with
  | lst h a => exact ⟨_, _, rfl, h, a⟩
end
end Pot
namespace Pot
open PySem PySem.Spec PyProof.Rows L2
theorem sm_at {H H' : Hp} {S : List Addr} {x : Addr} {o : HO} (s : Sm S H H') (n : x ∉ S) (h : H x = some o) : H' x = some o := by
  have := s x o (by rw [off_out n]; exact h)
  rw [off_out n] at this; exact this
theorem sm1_at {H H' : Hp} {b x : Addr} {o : HO} (s : Sm [b] H H') (n : x ≠ b) (h : H x = some o) : H' x = some o := sm_at s (fun z => n (List.mem_singleton.mp z)) h
theorem smp {H H' : Hp} {S : List Addr} {p : Addr} {o : HO} (s : Sm S H H') (h : H p = none) : Sm S H (upd H' p o) := fun x u e => by
  have n := off_mem e
  have ne : x ≠ p := fun z => by
    rw [off_out n, z, h] at e; cases e
  have := s x u e
  rw [off_out n] at this ⊢
  rw [upd_ne ne]; exact this
theorem sm_free {H H' : Hp} {b l : Addr} (s : Sm [b] H H') (B : Bx H' b) (h : H' l = none) : H l = none := by
  have nb := B.ne h
  have n : l ∉ [b] := fun z => nb (List.mem_singleton.mp z)
  cases e : H l with
  | none => rfl
  | some o => rw [sm_at s n e] at h; cases h
theorem cut_map {α : Type} (f : α → V) (ns : List α) (lo hi : Option Int) : cutV (ns.map f) lo hi = ((ns.drop (HT.sIx ns.length 0 lo)).take (HT.sIx ns.length ns.length hi - HT.sIx ns.length 0 lo)).map f := by
  unfold cutV
  rw [List.length_map, List.map_take, List.map_drop]
theorem cut_head {xs : List V} {k : Nat} : cutV xs none (some (k : Int)) = xs.take k := by
  unfold cutV
  rw [HT.sIx_none, HT.sIx_nat, List.drop_zero, Nat.sub_zero]
  by_cases h : k ≤ xs.length
  · rw [Nat.min_eq_left h]
  · rw [Nat.min_eq_right (by omega), List.take_length, List.take_of_length_le (by omega)]
theorem cut_tail {xs : List V} {k : Nat} : cutV xs (some (k : Int)) none = xs.drop k := by
  unfold cutV
  rw [HT.sIx_none, HT.sIx_nat]
  by_cases h : k ≤ xs.length
  · rw [Nat.min_eq_left h, List.take_of_length_le (by rw [List.length_drop]; exact Nat.le_refl _)]
  · rw [Nat.min_eq_right (by omega), Nat.sub_self, List.take_zero, List.drop_of_length_le (by omega)]
end Pot
namespace Pot
open PySem PySem.Spec PyProof.Rows L2
section
variable {K : PySem.W.Frag} {H : Hp} {t : Addr} {d : PyData} {ds : List PyData}
theorem seq_dp {x : V} (h : Dp K H x d) (e : d = .list ds ∨ d = .tuple ds) : ∃ t zs, x = .ref t ∧ (SqL K H t zs ∨ SqT K H t zs) ∧ DpAll K H zs ds := by
  rcases e with rfl | rfl
  · cases h with
    | lst h a => exact ⟨_, _, rfl, .inl h, a⟩
  · cases h with
    | tup h a => exact ⟨_, _, rfl, .inr h, a⟩
theorem len_dp (h : Dp K H (.ref t) d) (e : d = .list ds ∨ d = .tuple ds) : LenV K (.ref t) H ds.length := by
  rcases e with rfl | rfl
  · cases h with
    | lst h a => exact .inl ⟨_, h, (dpAll_len a).symm⟩
  · cases h with
    | tup h a => exact .inr ⟨_, h, (dpAll_len a).symm⟩
theorem Th.parts {m C D W : Nat} (h : Th m C D W d) (e : d = .list ds ∨ d = .tuple ds) : Ths m (C - 3) (D - 1) W ds ∧ ds.length ≤ W ∧ 3 ≤ C ∧ 1 ≤ D := by
  rcases e with rfl | rfl
  · exact h.ofList
  · exact h.ofTuple
end
theorem sm_in {H H' : Hp} {S : List Addr} {x : Addr} {o : HO} (s : Sm S H H') (h : off H S x = some o) : off H' S x = some o := s x o h
end Pot
namespace Pot
open PySem PySem.Spec PyProof.Rows L2
theorem costAll_set_eq : ∀ {ds : List PyData} {i : Nat} {x y : PyData}, ds[i]? = some y → costAll (ds.set i x) + costAll.cost y = costAll ds + costAll.cost x
  | [], _, _, _, h => by simp at h
  | z :: zs, 0, x, y, h => by
    have e : z = y := by simpa using h
    subst e
    show costAll.cost x + 2 + costAll zs + costAll.cost z = costAll.cost z + 2 + costAll zs + costAll.cost x
    omega
  | z :: zs, i + 1, x, y, h => by
    have := costAll_set_eq (ds := zs) (i := i) (x := x) (y := y) (by simpa using h)
    show costAll.cost z + 2 + costAll (zs.set i x) + costAll.cost y = costAll.cost z + 2 + costAll zs + costAll.cost x
    omega
theorem codes_ofString (s : String) : ∀ c ∈ (Str.ofString s).cps.toList, c < 1114112 := by
  intro c hc
  rw [Str.ofString_eq_toList] at hc
  have : c ∈ s.toList.map Char.toNat := by simpa using hc
  obtain ⟨ch, _, rfl⟩ := List.mem_map.mp this
  have v := ch.valid
  have e : ch.toNat = ch.val.toNat := rfl
  rcases v with v | ⟨_, v⟩
  · have : ch.val.toNat < 0xD800 := v
    omega
  · have : ch.val.toNat < 0x110000 := v
    omega
theorem th_text {i : Int} (h : i.natAbs ≤ 2000000) {m : Nat} : Th m 19212 0 0 (.str (toString i)) := by
  have l : (Str.ofString (toString i)).length ≤ 1921 := PyProof.Rows.int_text_len_1921 (log_small' h)
  exact ⟨⟨by omega, codes_ofString _⟩, by show 10 * (Str.ofString (toString i)).length + 2 ≤ 19212; omega, Nat.le_refl _, Nat.le_refl _⟩
end Pot

namespace Pot
open PySem PySem.Spec PyProof.Rows L2
theorem Ths.parts2 {m C E D W a b : Nat} {ds es : List PyData} (h : Ths m C D W ds) (hab : a ≤ b) (k : Ths m E D W es) : Ths m (C + E) D W (ds.take a ++ es ++ ds.drop b) := by
  have mem : ∀ d, d ∈ ds.take a ++ es ++ ds.drop b → d ∈ ds ∨ d ∈ es := fun d hd => by
    rcases List.mem_append.mp hd with z | z
    · rcases List.mem_append.mp z with y | y
      · exact .inl (List.mem_of_mem_take y)
      · exact .inr y
    · exact .inl (List.mem_of_mem_drop z)
  refine ⟨fun d hd => (mem d hd).elim (h.g d) (k.g d), ?_, fun d hd => (mem d hd).elim (h.d d) (k.d d), fun d hd => (mem d hd).elim (h.w d) (k.w d)⟩
  rw [costAll_app, costAll_app]
  have e := costAll_app (ds.take a) (ds.drop a)
  rw [List.take_append_drop] at e
  have e2 : ds.drop b = (ds.drop a).drop (b - a) := by rw [List.drop_drop]; congr 1; omega
  have e3 := costAll_drop (b - a) (ds.drop a)
  rw [← e2] at e3
  have := h.c
  have := k.c
  omega
end Pot

namespace Pot
open PySem PySem.Spec PyProof.Rows L2
theorem nodup_le {α : Type} [BEq α] [LawfulBEq α] : ∀ {ks l : List α}, ks.Nodup → (∀ k ∈ ks, k ∈ l) → ks.length ≤ l.length
  | [], _, _, _ => Nat.zero_le _
  | k :: ks, l, h, s => by
    have hk := s k List.mem_cons_self
    have h2 := (List.nodup_cons.mp h)
    have := nodup_le (ks := ks) (l := l.erase k) h2.2 fun x hx => by
      have ne : x ≠ k := fun e => h2.1 (e ▸ hx)
      exact (List.mem_erase_of_ne ne).mpr (s x (List.mem_cons_of_mem _ hx))
    rw [List.length_erase_of_mem hk] at this
    have : 0 < l.length := List.length_pos_of_mem hk
    simp only [List.length_cons]
    omega
section
variable {X : Cx} {K : PySem.W.Frag}
theorem ko_notIn (h : X.K = K := by rfl) : OpR X (compareOp .NotIn) (rIn K true) := h ▸ op_notIn_seq
/-- set(xs) of ints: how many members it has -/
def rSetLj (K : PySem.W.Frag) (w : World) : List V → Hp → VK → Prop := fun xs H Q => ∃ (a : Addr) (ns : List Int), xs = [V.ref a] ∧ SqL K H a (ns.map V.int) ∧ ns.length ≤ 4000 ∧
  ∀ (p : Addr) (ks : List Int), H p = none → ks.Nodup → (∀ k, k ∈ ks ↔ k ∈ ns) → Q (.ref p) (upd H p (SetO w p (fun k => decide (k ∈ ns)) ks.length))
theorem cr_setLj (hc : X.calm = true) : CallR X (.type "set") (rSetLj X.K X.w) := by
  intro pins s σ H vs us Q I r h
  obtain ⟨a, ns, rfl, hS, hl, q⟩ := h
  rw [Vals.ref1 r]
  obtain ⟨its, rv, pl, hz⟩ := I.list hS
  refine call_set_li ns (I.ok.hd hc) pl.isList (by simpa using Vals.ints rv) (by unfold scanBound; omega) fun s' f => ?_
  obtain ⟨h', tk, c, rfl, R, hcn, k⟩ := f
  have hn : H s.heap.objs.size = none := I.hok.fresh (Nat.le_refl _)
  have J : Inv X pins σ (upd H s.heap.objs.size (SetO X.w s.heap.objs.size (fun k => decide (k ∈ ns)) c)) { s with heap := h', toks := tk } := I.laid (t' := tk) k (Nat.le_refl _) (setO_new R)
  obtain ⟨o, es, ep, t, _, _, _, _, nod, mem, _, _, size, _⟩ := R
  have q2 := q s.heap.objs.size (es.toList.map keyOf) hn nod fun k => by rw [← mem k, decide_eq_true_eq]
  rw [List.length_map, Array.length_toList, size] at q2
  exact ⟨.ref s.heap.objs.size, _, J, rfl, q2⟩
theorem kc_setLj {w : World} (hc : X.calm = true := by rfl) (h : X.K = K := by rfl) (hw : X.w = w := by rfl) : CallR X (.type "set") (rSetLj K w) := by subst h; subst hw; exact cr_setLj hc
end
end Pot

namespace Pot
open PySem PySem.Spec PyProof.Rows L2
/-! ### kinds of data -/
def tyD : PyData → String
  | .none => "NoneType"
  | .bool _ => "bool"
  | .int _ => "int"
  | .str _ => "str"
  | .list _ => "list"
  | .tuple _ => "tuple"
  | .dict _ => "dict"
def isIntD : PyData → Bool
  | .int _ => true
  | .bool _ => true
  | _ => false
def isBoolD : PyData → Bool
  | .bool _ => true
  | _ => false
def isStrD : PyData → Bool
  | .str _ => true
  | _ => false
def isListD : PyData → Bool
  | .list _ => true
  | _ => false
def isTupD : PyData → Bool
  | .tuple _ => true
  | _ => false
section
variable {K : PySem.W.Frag} {H : Hp} {x : V} {d : PyData} {Q : VK}
theorem tyx_dp (h : Dp K H x d) : TyX K H x (.type (tyD d)) := by
  cases h with
  | non => exact .base .non
  | bl b => exact .base (.bl b)
  | int i => exact .base (.int i)
  | str z => exact .base (.str z)
  | lst h _ => exact tyx_list h
  | tup h _ => exact tyx_tup h
theorem kit_int (h : Dp K H x d) : PySem.W.kitOne K (.type (tyD d)) (.type "int") = some (isIntD d) := by
  cases h with
  | non => exact kit_ty (show kitB "NoneType" "int" = some false by decide +kernel)
  | bl _ => exact kit_ty (show kitB "bool" "int" = some true by decide +kernel)
  | int _ => exact kit_ty (show kitB "int" "int" = some true by decide +kernel)
  | str _ => exact kit_ty (show kitB "str" "int" = some false by decide +kernel)
  | lst _ _ => exact kit_ty (show kitB "list" "int" = some false by decide +kernel)
  | tup _ _ => exact kit_ty (show kitB "tuple" "int" = some false by decide +kernel)
theorem kit_bool (h : Dp K H x d) : PySem.W.kitOne K (.type (tyD d)) (.type "bool") = some (isBoolD d) := by
  cases h with
  | non => exact kit_ty (show kitB "NoneType" "bool" = some false by decide +kernel)
  | bl _ => exact kit_ty (show kitB "bool" "bool" = some true by decide +kernel)
  | int _ => exact kit_ty (show kitB "int" "bool" = some false by decide +kernel)
  | str _ => exact kit_ty (show kitB "str" "bool" = some false by decide +kernel)
  | lst _ _ => exact kit_ty (show kitB "list" "bool" = some false by decide +kernel)
  | tup _ _ => exact kit_ty (show kitB "tuple" "bool" = some false by decide +kernel)
theorem kit_str (h : Dp K H x d) : PySem.W.kitOne K (.type (tyD d)) (.type "str") = some (isStrD d) := by
  cases h with
  | non => exact kit_ty (show kitB "NoneType" "str" = some false by decide +kernel)
  | bl _ => exact kit_ty (show kitB "bool" "str" = some false by decide +kernel)
  | int _ => exact kit_ty (show kitB "int" "str" = some false by decide +kernel)
  | str _ => exact kit_ty (show kitB "str" "str" = some true by decide +kernel)
  | lst _ _ => exact kit_ty (show kitB "list" "str" = some false by decide +kernel)
  | tup _ _ => exact kit_ty (show kitB "tuple" "str" = some false by decide +kernel)
theorem kit_list (h : Dp K H x d) : PySem.W.kitOne K (.type (tyD d)) (.type "list") = some (isListD d) := by
  cases h with
  | non => exact kit_ty (show kitB "NoneType" "list" = some false by decide +kernel)
  | bl _ => exact kit_ty (show kitB "bool" "list" = some false by decide +kernel)
  | int _ => exact kit_ty (show kitB "int" "list" = some false by decide +kernel)
  | str _ => exact kit_ty (show kitB "str" "list" = some false by decide +kernel)
  | lst _ _ => exact kit_ty (show kitB "list" "list" = some true by decide +kernel)
  | tup _ _ => exact kit_ty (show kitB "tuple" "list" = some false by decide +kernel)
theorem kit_tup (h : Dp K H x d) : PySem.W.kitOne K (.type (tyD d)) (.type "tuple") = some (isTupD d) := by
  cases h with
  | non => exact kit_ty (show kitB "NoneType" "tuple" = some false by decide +kernel)
  | bl _ => exact kit_ty (show kitB "bool" "tuple" = some false by decide +kernel)
  | int _ => exact kit_ty (show kitB "int" "tuple" = some false by decide +kernel)
  | str _ => exact kit_ty (show kitB "str" "tuple" = some false by decide +kernel)
  | lst _ _ => exact kit_ty (show kitB "list" "tuple" = some false by decide +kernel)
  | tup _ _ => exact kit_ty (show kitB "tuple" "tuple" = some true by decide +kernel)
theorem kit_lt (h : Dp K H x d) : PySem.W.kitAny K (.type (tyD d)) [.type "list", .type "tuple"] = some (isListD d || isTupD d) := by
  cases h <;> rfl
end
/-! ### numbers within bounds -/
def numD (lo hi : Int) : PyData → Bool
  | .int i => decide (lo ≤ i) && decide (i ≤ hi)
  | _ => false
def toI : PyData → Int
  | .int i => i
  | _ => 0
theorem numD_int {lo hi : Int} : ∀ {d : PyData}, numD lo hi d = true → d = .int (toI d) ∧ lo ≤ toI d ∧ toI d ≤ hi
  | .int i, h => by
    obtain ⟨h1, h2⟩ := Bool.and_eq_true_iff.mp (show (decide (lo ≤ i) && decide (i ≤ hi)) = true from h)
    exact ⟨rfl, of_decide_eq_true h1, of_decide_eq_true h2⟩
/-- rising -/
def risI : List Int → Bool
  | a :: b :: r => decide (a < b) && risI (b :: r)
  | _ => true
def risD (lo hi : Int) : PyData → Bool
  | .list ds => ds.all (numD lo hi) && risI (ds.map toI)
  | _ => false
theorem risI_pair : ∀ {ns : List Int}, risI ns = true ↔ ns.Pairwise (· < ·)
  | [] => by simp [risI]
  | [a] => by simp [risI]
  | a :: b :: r => by
    have ih := risI_pair (ns := b :: r)
    show (decide (a < b) && risI (b :: r)) = true ↔ _
    rw [Bool.and_eq_true_iff, decide_eq_true_eq, ih]
    constructor
    · rintro ⟨h1, h2⟩
      refine List.pairwise_cons.mpr ⟨fun x hx => ?_, h2⟩
      rcases List.mem_cons.mp hx with e | e
      · rw [e]; exact h1
      · exact Int.lt_trans h1 ((List.pairwise_cons.mp h2).1 x e)
    · intro h
      obtain ⟨h1, h2⟩ := List.pairwise_cons.mp h
      exact ⟨h1 b List.mem_cons_self, h2⟩
theorem nums_of {lo hi : Int} {ds : List PyData} (h : ds.all (numD lo hi) = true) : ds = (ds.map toI).map PyData.int ∧ ∀ k ∈ ds.map toI, lo ≤ k ∧ k ≤ hi := by
  rw [List.all_eq_true] at h
  constructor
  · rw [List.map_map]
    conv => lhs; rw [← List.map_id ds]
    exact List.map_congr_left fun d hd => (numD_int (h d hd)).1
  · intro k hk
    obtain ⟨d, hd, rfl⟩ := List.mem_map.mp hk
    exact (numD_int (h d hd)).2
section
variable {K : PySem.W.Frag} {H : Hp}
theorem dp_intsV : ∀ {xs : List V} {ns : List Int}, DpAll K H xs (ns.map PyData.int) → xs = ns.map V.int
  | [], [], _ => rfl
  | [], _ :: _, h => by cases h
  | _ :: _, [], h => by cases h
  | x :: xs, n :: ns, h => by
    cases h with
    | cons h t => cases h; rw [dp_intsV t]; rfl
end
/-- of a row that rises just the same: a row in which all stand in order, none twice -/
theorem sorted_uniq : ∀ {xs ys : List Int}, xs.Pairwise (· < ·) → ys.Pairwise (· < ·) → (∀ k, k ∈ xs ↔ k ∈ ys) → xs = ys
  | [], [], _, _, _ => rfl
  | [], y :: ys, _, _, h => by have := (h y).mpr List.mem_cons_self; simp at this
  | x :: xs, [], _, _, h => by have := (h x).mp List.mem_cons_self; simp at this
  | x :: xs, y :: ys, h1, h2, h => by
    rw [List.pairwise_cons] at h1 h2
    have e : x = y := by
      rcases List.mem_cons.mp ((h x).mp List.mem_cons_self) with e | e
      · exact e
      · rcases List.mem_cons.mp ((h y).mpr List.mem_cons_self) with e2 | e2
        · exact e2.symm
        · have := h2.1 x e; have := h1.1 y e2; omega
    subst e
    have : xs = ys := sorted_uniq h1.2 h2.2 fun k => by
      constructor
      · intro hk
        rcases List.mem_cons.mp ((h k).mp (List.mem_cons_of_mem _ hk)) with e | e
        · have := h1.1 k hk; omega
        · exact e
      · intro hk
        rcases List.mem_cons.mp ((h k).mpr (List.mem_cons_of_mem _ hk)) with e | e
        · have := h2.1 k hk; omega
        · exact e
    rw [this]
theorem eqv_ints : ∀ xs ys : List Int, PyData.eqv (.list (xs.map PyData.int)) (.list (ys.map PyData.int)) = decide (xs = ys)
  | [], [] => rfl
  | [], _ :: _ => rfl
  | _ :: _, [] => rfl
  | x :: xs, y :: ys => by
    have ih := eqv_ints xs ys
    show (PyData.eqv (.int x) (.int y) && PyData.eqvAll (xs.map PyData.int) (ys.map PyData.int)) = _
    rw [show PyData.eqvAll (xs.map PyData.int) (ys.map PyData.int) = decide (xs = ys) from ih]
    show ((x == y) && _) = _
    by_cases h : x = y
    · subst h; simp
    · simp [h]
/-- thing == sorted(set(thing)): just where it rises -/
theorem eq_sorted {ns zs : List Int} (h : zs.Pairwise (· < ·)) (m : ∀ k, k ∈ zs ↔ k ∈ ns) : decide (ns = zs) = risI ns := by
  by_cases e : ns = zs
  · rw [decide_eq_true e, e]; exact (risI_pair.mpr h).symm
  · rw [decide_eq_false e]
    cases hr : risI ns with
    | false => rfl
    | true => exact absurd (sorted_uniq (risI_pair.mp hr) h fun k => (m k).symm) e
theorem nodup_60 {ks : List Int} (h : ks.Nodup) (b : ∀ k ∈ ks, 0 ≤ k ∧ k ≤ 60) : ks.length < 64 := by
  have := nodup_le (l := (List.range 61).map fun (i : Nat) => (i : Int)) h fun k hk => by
    obtain ⟨h0, h1⟩ := b k hk
    exact List.mem_map.mpr ⟨k.toNat, List.mem_range.mpr (by omega), by omega⟩
  rw [List.length_map, List.length_range] at this
  omega
end Pot
namespace Pot
open PySem PySem.Spec PyProof.Rows L2
/-! ### a comprehension that changes nothing that stood: out i is what is told up to turn i -/
def PvL (H1 : Hp) (D : Addr) (out : Nat → List V) (i : Nat) (H2 : Hp) : Prop := Same H1 H2 ∧ H2 D = some (.lst (out i))
section
variable {H1 H2 H3 : Hp} {D : Addr} {out : Nat → List V} {i : Nat} {y : V}
theorem pv_start (nD : H1 D = none) (e : out 0 = []) : PvL H1 D out 0 (upd H1 D (.lst [])) := ⟨same_upd nD, by rw [e]; exact upd_same⟩
theorem pv_put (nD : H1 D = none) (p : PvL H1 D out i H2) (s : Same H2 H3) (e : out (i + 1) = out i ++ [y]) (l : (out i).length < sizeLine) : ∃ acc, H3 D = some (.lst acc) ∧ acc.length < sizeLine ∧ PvL H1 D out (i + 1) (upd H3 D (.lst (acc ++ [y]))) :=
  ⟨out i, s _ _ p.2, l, same_put (p.1.trans s) nD, by rw [e]; exact upd_same⟩
theorem pv_skip (p : PvL H1 D out i H2) (s : Same H2 H3) (e : out (i + 1) = out i) : PvL H1 D out (i + 1) H3 := ⟨p.1.trans s, by rw [e]; exact s _ _ p.2⟩
end
theorem take_map {α : Type} (f : α → V) {l : List α} {i : Nat} {x : α} (h : l[i]? = some x) : (l.take (i + 1)).map f = (l.take i).map f ++ [f x] := by
  rw [List.take_add_one, h, List.map_append]; rfl
theorem take_len_lt {α : Type} {f : α → V} {l : List α} {i : Nat} (h : i < 100000) : ((l.take i).map f).length < sizeLine := by
  rw [List.length_map, List.length_take, sizeLine_eq]; omega
theorem take_len_le {α : Type} {f : α → V} {l : List α} {i : Nat} (h : l.length < 100000) : ((l.take i).map f).length < sizeLine := by
  rw [List.length_map, List.length_take, sizeLine_eq]; omega
/-- each below the next -/
def rb : List Int → List Bool
  | a :: b :: r => decide (a < b) :: rb (b :: r)
  | _ => []
theorem rb_all : ∀ ns : List Int, (rb ns).all id = risI ns
  | [] => rfl
  | [_] => rfl
  | a :: b :: r => by show (decide (a < b) && (rb (b :: r)).all id) = _; rw [rb_all (b :: r)]; rfl
theorem rb_len : ∀ ns : List Int, (rb ns).length = ns.length - 1
  | [] => rfl
  | [_] => rfl
  | a :: b :: r => by show (rb (b :: r)).length + 1 = _; rw [rb_len (b :: r)]; simp
theorem rb_at : ∀ {ns : List Int} {i : Nat} {x y : Int}, ns[i]? = some x → ns[i + 1]? = some y → (rb ns)[i]? = some (decide (x < y))
  | [], _, _, _, h, _ => by simp at h
  | [_], i, _, _, _, h => by simp at h
  | a :: b :: r, 0, x, y, h, k => by
    have e1 : a = x := by simpa using h
    have e2 : b = y := by simpa using k
    subst e1 e2; rfl
  | a :: b :: r, i + 1, x, y, h, k => rb_at (ns := b :: r) (i := i) (by simpa using h) (by simpa using k)
/-- what is told of each of some data -/
theorem all_map {ds : List PyData} {f : PyData → Bool} : (ds.map f).all id = ds.all f := by
  rw [List.all_map]; rfl
end Pot
namespace Pot
open PySem PySem.Spec PyProof.Rows L2
theorem pv_end {H1 H2 : Hp} {D : Addr} {out : Nat → List V} {n : Nat} {zs : List V} (p : PvL H1 D out n H2) (e : out n = zs) : Same H1 H2 ∧ H2 D = some (.lst zs) := ⟨p.1, by rw [← e]; exact p.2⟩
theorem take_all {α : Type} {f : α → V} {l : List α} {n : Nat} (h : l.length ≤ n) : (l.take n).map f = l.map f := by rw [List.take_of_length_le h]
end Pot

namespace Pot
open PySem PySem.Spec PyProof.Rows L2
/-! ### palettes as data -/
abbrev Col := Str × Int × Int × Int
abbrev Wsh := Str × Str × Option Int
def colD (c : Col) : PyData := .tuple [.str c.1, .int c.2.1, .int c.2.2.1, .int c.2.2.2]
def optD : Option Int → PyData
  | none => .none
  | some i => .int i
def washD (r : Wsh) : PyData := .tuple [.str r.1, .str r.2.1, optD r.2.2]
def palD (cs : List Col) (ws : List Wsh) : PyData := .tuple [.tuple (cs.map colD), .tuple (ws.map washD)]
def optV : Option Int → V
  | none => .non
  | some i => .int i
def namV : Option Str → V
  | none => .non
  | some z => .str z
/-- the washing between two: the first row that tells -/
def washF (ws : List Wsh) (a : Option Str) (b : Str) : Option Int := match ws with
  | [] => some 0
  | r :: ws => if some r.1 = a ∧ r.2.1 = b then r.2.2 else washF ws a b
/-- the washing of a row -/
def sumF (ws : List Wsh) : Option Str → List Str → Int → Option Int
  | _, [], h => some h
  | a, b :: r, h => match washF ws a b with
    | none => none
    | some k => sumF ws (some b) r (h + k)
section
variable {K : PySem.W.Frag} {H : Hp}
theorem dp_tup {v : V} {ds : List PyData} (h : Dp K H v (.tuple ds)) : ∃ a xs, v = .ref a ∧ SqT K H a xs ∧ DpAll K H xs ds := by
  cases h with
  | tup h a => exact ⟨_, _, rfl, h, a⟩
theorem dp_lst {v : V} {ds : List PyData} (h : Dp K H v (.list ds)) : ∃ a xs, v = .ref a ∧ SqL K H a xs ∧ DpAll K H xs ds := by
  cases h with
  | lst h a => exact ⟨_, _, rfl, h, a⟩
theorem dp_str {v : V} {z : Str} (h : Dp K H v (.str z)) : v = .str z := by cases h; rfl
theorem dp_int {v : V} {z : Int} (h : Dp K H v (.int z)) : v = .int z := by cases h; rfl
theorem dp_opt {v : V} : ∀ {z : Option Int}, Dp K H v (optD z) → v = optV z
  | none, h => by cases h; rfl
  | some i, h => by cases h; rfl
theorem opt_dp : ∀ (z : Option Int), Dp K H (optV z) (optD z)
  | none => .non
  | some i => .int i
theorem dp_two {xs : List V} {d e : PyData} (h : DpAll K H xs [d, e]) : ∃ x y, xs = [x, y] ∧ Dp K H x d ∧ Dp K H y e := by
  cases h with
  | cons h1 t => cases t with
    | cons h2 t => cases t; exact ⟨_, _, rfl, h1, h2⟩
theorem dp_three {xs : List V} {d e f : PyData} (h : DpAll K H xs [d, e, f]) : ∃ x y z, xs = [x, y, z] ∧ Dp K H x d ∧ Dp K H y e ∧ Dp K H z f := by
  cases h with
  | cons h1 t => obtain ⟨y, z, rfl, h2, h3⟩ := dp_two t; exact ⟨_, _, _, rfl, h1, h2, h3⟩
theorem dp_four {xs : List V} {d e f g : PyData} (h : DpAll K H xs [d, e, f, g]) : ∃ x y z u, xs = [x, y, z, u] ∧ Dp K H x d ∧ Dp K H y e ∧ Dp K H z f ∧ Dp K H u g := by
  cases h with
  | cons h1 t => obtain ⟨y, z, u, rfl, h2, h3, h4⟩ := dp_three t; exact ⟨_, _, _, _, rfl, h1, h2, h3, h4⟩
/-- a colour's tuple -/
theorem col_dp {v : V} {c : Col} (h : Dp K H v (colD c)) : ∃ a, v = .ref a ∧ SqT K H a [.str c.1, .int c.2.1, .int c.2.2.1, .int c.2.2.2] := by
  obtain ⟨a, xs, rfl, hs, ha⟩ := dp_tup h
  obtain ⟨x, y, z, u, rfl, h1, h2, h3, h4⟩ := dp_four ha
  rw [dp_str h1, dp_int h2, dp_int h3, dp_int h4] at hs
  exact ⟨a, rfl, hs⟩
theorem wash_dp {v : V} {r : Wsh} (h : Dp K H v (washD r)) : ∃ a, v = .ref a ∧ SqT K H a [.str r.1, .str r.2.1, optV r.2.2] := by
  obtain ⟨a, xs, rfl, hs, ha⟩ := dp_tup h
  obtain ⟨x, y, z, rfl, h1, h2, h3⟩ := dp_three ha
  rw [dp_str h1, dp_str h2, dp_opt h3] at hs
  exact ⟨a, rfl, hs⟩
/-- a palette in the heap -/
theorem pal_dp {v : V} {cs : List Col} {ws : List Wsh} (h : Dp K H v (palD cs ws)) :
    ∃ p c w xs ys, v = .ref p ∧ SqT K H p [.ref c, .ref w] ∧ SqT K H c xs ∧ DpAll K H xs (cs.map colD) ∧ SqT K H w ys ∧ DpAll K H ys (ws.map washD) := by
  obtain ⟨p, zs, rfl, hp, hz⟩ := dp_tup h
  obtain ⟨x, y, rfl, h1, h2⟩ := dp_two hz
  obtain ⟨c, xs, rfl, hc, hx⟩ := dp_tup h1
  obtain ⟨w, ys, rfl, hw, hy⟩ := dp_tup h2
  exact ⟨p, c, w, xs, ys, rfl, hp, hc, hx, hw, hy⟩
theorem dpAll_map_at {α : Type} {f : α → PyData} {xs : List V} {l : List α} {i : Nat} {x : V} (h : DpAll K H xs (l.map f)) (e : xs[i]? = some x) : ∃ y, l[i]? = some y ∧ Dp K H x (f y) := by
  obtain ⟨d, g, p⟩ := dpAll_at h e
  rw [List.getElem?_map] at g
  obtain ⟨y, hy, rfl⟩ := Option.map_eq_some_iff.mp g
  exact ⟨y, hy, p⟩
theorem dpAll_map_len {α : Type} {f : α → PyData} {xs : List V} {l : List α} (h : DpAll K H xs (l.map f)) : xs.length = l.length := by
  rw [dpAll_len h, List.length_map]
end
theorem decS {a b : Str} : decide (V.str a = V.str b) = decide (a = b) := by
  by_cases h : a = b
  · subst h; rw [decide_eq_true rfl, decide_eq_true rfl]
  · rw [decide_eq_false h, decide_eq_false fun z => h (V.str.inj z)]
/-- behind rows that don't tell -/
theorem washF_skip {a : Option Str} {b : Str} : ∀ {ws : List Wsh} {i : Nat}, (∀ j r, j < i → ws[j]? = some r → ¬ (some r.1 = a ∧ r.2.1 = b)) → washF ws a b = washF (ws.drop i) a b
  | ws, 0, _ => rfl
  | [], i + 1, _ => rfl
  | r :: ws, i + 1, h => by
    show (if some r.1 = a ∧ r.2.1 = b then r.2.2 else washF ws a b) = washF (ws.drop i) a b
    rw [if_neg (h 0 r (Nat.succ_pos _) rfl)]
    exact washF_skip (a := a) (b := b) (ws := ws) (i := i) fun j q hj e => h (j + 1) q (Nat.succ_lt_succ hj) e
theorem washF_at {a : Option Str} {b : Str} {ws : List Wsh} {i : Nat} {r : Wsh} (h : ∀ j r, j < i → ws[j]? = some r → ¬ (some r.1 = a ∧ r.2.1 = b)) (e : ws[i]? = some r) (hr : some r.1 = a ∧ r.2.1 = b) : washF ws a b = r.2.2 := by
  rw [washF_skip h, List.drop_eq_getElem_cons (List.getElem?_eq_some_iff.mp e).1, (List.getElem?_eq_some_iff.mp e).2]
  unfold washF
  rw [if_pos hr]
theorem washF_none {a : Option Str} {b : Str} {ws : List Wsh} (h : ∀ j r, j < ws.length → ws[j]? = some r → ¬ (some r.1 = a ∧ r.2.1 = b)) : washF ws a b = some 0 := by
  rw [washF_skip h, List.drop_length]
  rfl
/-! ### data without lists stays while the law draws -/
def noLAll : List PyData → Prop
  | [] => True
  | x :: xs => noL x ∧ noLAll xs
where noL : PyData → Prop
  | .list _ => False
  | .dict _ => False
  | .tuple xs => noLAll xs
  | _ => True
section
variable {K : PySem.W.Frag}
theorem kp_tup {d c : Addr} {H H' : Hp} {n : Nat} {a : Addr} {xs : List V} (st : StAt H d c n) (k : Kp d c H H') (h : SqT K H a xs) : SqT K H' a xs := by
  obtain ⟨_, ys, t, h1, h2, _⟩ := st
  have go : ∀ o, (H a = some (.tup xs) ∨ H a = some (.frz o (.tup xs))) → a ≠ d ∧ a ≠ c := fun o e => by
    constructor
    · intro z; subst z; rw [h1] at e; rcases e with e | e <;> cases e
    · intro z; subst z; rw [h2] at e; rcases e with e | e <;> cases e
  rcases h with (h | ⟨o, h⟩) | h
  · have g := go ⟨.none, none, .fields #[], #[]⟩ (.inl h); exact .inl (.inl (k _ _ g.1 g.2 h))
  · have g := go o (.inr h); exact .inl (.inr ⟨o, k _ _ g.1 g.2 h⟩)
  · exact .inr h
mutual
theorem dp_kp {d c : Addr} {H H' : Hp} {n : Nat} (st : StAt H d c n) (k : Kp d c H H') : ∀ {v : V} {e : PyData}, noLAll.noL e → Dp K H v e → Dp K H' v e
  | _, _, _, .non => .non
  | _, _, _, .bl b => .bl b
  | _, _, _, .int i => .int i
  | _, _, _, .str x => .str x
  | _, _, h, .lst _ _ => h.elim
  | _, _, h, .tup s a => .tup (kp_tup st k s) (dpAll_kp st k h a)
theorem dpAll_kp {d c : Addr} {H H' : Hp} {n : Nat} (st : StAt H d c n) (k : Kp d c H H') : ∀ {vs : List V} {es : List PyData}, noLAll es → DpAll K H vs es → DpAll K H' vs es
  | _, _, _, .nil => .nil
  | _, _, h, .cons x t => .cons (dp_kp st k h.1 x) (dpAll_kp st k h.2 t)
end
mutual
theorem dp_go {H H' : Hp} (go : ∀ a us, SqT K H a us → SqT K H' a us) : ∀ {v : V} {e : PyData}, noLAll.noL e → Dp K H v e → Dp K H' v e
  | _, _, _, .non => .non
  | _, _, _, .bl b => .bl b
  | _, _, _, .int i => .int i
  | _, _, _, .str x => .str x
  | _, _, h, .lst _ _ => h.elim
  | _, _, h, .tup s a => .tup (go _ _ s) (dpAll_go go h a)
theorem dpAll_go {H H' : Hp} (go : ∀ a us, SqT K H a us → SqT K H' a us) : ∀ {vs : List V} {es : List PyData}, noLAll es → DpAll K H vs es → DpAll K H' vs es
  | _, _, _, .nil => .nil
  | _, _, h, .cons x t => .cons (dp_go go h.1 x) (dpAll_go go h.2 t)
end
theorem noL_map {α : Type} {f : α → PyData} (h : ∀ x, noLAll.noL (f x)) : ∀ l : List α, noLAll (l.map f)
  | [] => trivial
  | x :: r => ⟨h x, noL_map h r⟩
theorem noL_col (c : Col) : noLAll.noL (colD c) := ⟨trivial, trivial, trivial, trivial, trivial⟩
theorem noL_wash (r : Wsh) : noLAll.noL (washD r) := ⟨trivial, trivial, by cases r.2.2 <;> trivial, trivial⟩
theorem noL_pal (cs : List Col) (ws : List Wsh) : noLAll.noL (palD cs ws) := ⟨noL_map noL_col cs, noL_map noL_wash ws, trivial⟩
theorem dpAll_app {H : Hp} : ∀ {xs ys : List V} {ds es : List PyData}, DpAll K H xs ds → DpAll K H ys es → DpAll K H (xs ++ ys) (ds ++ es)
  | _, _, _, _, .nil, h => h
  | _, _, _, _, .cons h t, h2 => .cons h (dpAll_app t h2)
end
/-! ### how long a palette's text may be -/
structure PalOk (cs : List Col) (ws : List Wsh) : Prop where
  nc : cs.length ≤ 20
  nw : ws.length ≤ 60
  cn : ∀ c ∈ cs, c.1.length ≤ 9 ∧ (∀ x ∈ c.1.cps.toList, x < 1114112) ∧ c.2.1.natAbs < 10000 ∧ c.2.2.1.natAbs < 10000 ∧ c.2.2.2.natAbs < 10000
  wn : ∀ r ∈ ws, (r.1.length ≤ 9 ∧ ∀ x ∈ r.1.cps.toList, x < 1114112) ∧ (r.2.1.length ≤ 9 ∧ ∀ x ∈ r.2.1.cps.toList, x < 1114112) ∧ ∀ i, r.2.2 = some i → i.natAbs < 10000
theorem PalOk.addC {cs : List Col} {ws : List Wsh} {c : Col} (h : PalOk cs ws) (n : cs.length < 20) (ok : c.1.length ≤ 9 ∧ (∀ x ∈ c.1.cps.toList, x < 1114112) ∧ c.2.1.natAbs < 10000 ∧ c.2.2.1.natAbs < 10000 ∧ c.2.2.2.natAbs < 10000) : PalOk (cs ++ [c]) ws :=
  ⟨by rw [List.length_append]; exact n, h.nw, fun x hx => (List.mem_append.mp hx).elim (h.cn x) fun z => by rw [List.mem_singleton.mp z]; exact ok, h.wn⟩
theorem PalOk.addW {cs : List Col} {ws : List Wsh} {r : Wsh} (h : PalOk cs ws) (n : ws.length < 60) (ok : (r.1.length ≤ 9 ∧ ∀ x ∈ r.1.cps.toList, x < 1114112) ∧ (r.2.1.length ≤ 9 ∧ ∀ x ∈ r.2.1.cps.toList, x < 1114112) ∧ ∀ i, r.2.2 = some i → i.natAbs < 10000) : PalOk cs (ws ++ [r]) :=
  ⟨h.nc, by rw [List.length_append]; exact n, h.cn, fun x hx => (List.mem_append.mp hx).elim (h.wn x) fun z => by rw [List.mem_singleton.mp z]; exact ok⟩
theorem log_small {i : Int} (h : i.natAbs < 10000) : i.natAbs.log2 < 1920 := by
  by_cases z : i.natAbs = 0
  · rw [z]; decide
  · have := (Nat.log2_lt z).mpr (show i.natAbs < 2 ^ 14 from Nat.lt_of_lt_of_le h (by decide))
    omega
theorem fineAll_map {α : Type} {f : α → PyData} : ∀ {l : List α}, (∀ x ∈ l, fineAll.fine (f x)) → fineAll (l.map f)
  | [], _ => trivial
  | x :: r, h => ⟨h x List.mem_cons_self, fineAll_map fun y hy => h y (List.mem_cons_of_mem _ hy)⟩
theorem costAll_map {α : Type} {f : α → PyData} {b : Nat} : ∀ {l : List α}, (∀ x ∈ l, costAll.cost (f x) ≤ b) → costAll (l.map f) ≤ l.length * (b + 2)
  | [], _ => Nat.zero_le _
  | x :: r, h => by
    have h1 := h x List.mem_cons_self
    have h2 := costAll_map (l := r) fun y hy => h y (List.mem_cons_of_mem _ hy)
    show costAll.cost (f x) + 2 + costAll (r.map f) ≤ (r.length + 1) * (b + 2)
    rw [Nat.succ_mul]
    omega
theorem depthAll_map {α : Type} {f : α → PyData} {b : Nat} : ∀ {l : List α}, (∀ x ∈ l, (f x).depth ≤ b) → PyData.depthAll (l.map f) ≤ b
  | [], _ => Nat.zero_le _
  | x :: r, h => by
    show max (f x).depth (PyData.depthAll (r.map f)) ≤ b
    exact Nat.max_le.mpr ⟨h x List.mem_cons_self, depthAll_map fun y hy => h y (List.mem_cons_of_mem _ hy)⟩
theorem fine_col {c : Col} (h : c.1.length ≤ 9 ∧ (∀ x ∈ c.1.cps.toList, x < 1114112) ∧ c.2.1.natAbs < 10000 ∧ c.2.2.1.natAbs < 10000 ∧ c.2.2.2.natAbs < 10000) : fineAll.fine (colD c) :=
  ⟨fun x hx => Nat.lt_trans (h.2.1 x hx) (by decide), log_small h.2.2.1, log_small h.2.2.2.1, log_small h.2.2.2.2, trivial⟩
theorem fine_opt {o : Option Int} (h : ∀ i, o = some i → i.natAbs < 10000) : fineAll.fine (optD o) := by
  cases o with
  | none => trivial
  | some i => exact log_small (h i rfl)
theorem pal_fine {cs : List Col} {ws : List Wsh} (h : PalOk cs ws) : fineAll.fine (palD cs ws) :=
  ⟨fineAll_map fun c hc => fine_col (h.cn c hc), fineAll_map fun r hr => ⟨fun x hx => Nat.lt_trans ((h.wn r hr).1.2 x hx) (by decide), fun x hx => Nat.lt_trans ((h.wn r hr).2.1.2 x hx) (by decide), fine_opt (h.wn r hr).2.2, trivial⟩, trivial⟩
theorem cost_opt (o : Option Int) : costAll.cost (optD o) ≤ 1921 := by
  cases o with
  | none => decide
  | some i => exact Nat.le_refl _
theorem pal_cost {cs : List Col} {ws : List Wsh} (h : PalOk cs ws) : costAll.cost (palD cs ws) ≤ 1000000 := by
  have h1 : costAll (cs.map colD) ≤ cs.length * (10000 + 2) := costAll_map fun c hc => by
    have := (h.cn c hc).1
    show (10 * c.1.length + 2) + 2 + (1921 + 2 + (1921 + 2 + (1921 + 2 + 0))) + 3 ≤ 10000
    omega
  have h2 : costAll (ws.map washD) ≤ ws.length * (10000 + 2) := costAll_map fun r hr => by
    have a := (h.wn r hr).1.1
    have b := (h.wn r hr).2.1.1
    have c := cost_opt r.2.2
    show (10 * r.1.length + 2) + 2 + ((10 * r.2.1.length + 2) + 2 + (costAll.cost (optD r.2.2) + 2 + 0)) + 3 ≤ 10000
    omega
  have h3 := Nat.mul_le_mul_right 10002 h.nc
  have h4 := Nat.mul_le_mul_right 10002 h.nw
  show (costAll (cs.map colD) + 3) + 2 + ((costAll (ws.map washD) + 3) + 2 + 0) + 3 ≤ 1000000
  omega
theorem depth_opt (o : Option Int) : (optD o).depth = 0 := by cases o <;> rfl
theorem pal_depth (cs : List Col) (ws : List Wsh) : (palD cs ws).depth ≤ 3 := by
  have h1 : PyData.depthAll (cs.map colD) ≤ 1 := depthAll_map fun c _ => by show 1 ≤ 1; decide
  have h2 : PyData.depthAll (ws.map washD) ≤ 1 := depthAll_map fun r _ => by
    show max 0 (max 0 (max (optD r.2.2).depth 0)) + 1 ≤ 1
    rw [depth_opt]
    decide
  show max (PyData.depthAll (cs.map colD) + 1) (max (PyData.depthAll (ws.map washD) + 1) 0) + 1 ≤ 3
  omega
end Pot

namespace Pot
open PySem PySem.Spec PyProof.Rows L2
/-! ### a box of three numbers whose last is at most n -/
def Bq (H : Hp) (b : Addr) (n : Nat) : Prop := ∃ x y z : Int, H b = some (.lst [.int x, .int y, .int z]) ∧ 0 ≤ z ∧ z ≤ n
section
variable {H H' : Hp} {b p : Addr} {n m : Nat} {o : HO}
theorem Bq.bx (B : Bq H b n) : Bx H b := by
  obtain ⟨x, y, z, h, _⟩ := B
  exact ⟨x, y, z, h⟩
theorem Bq.same (B : Bq H b n) (s : Same H H') : Bq H' b n := by
  obtain ⟨x, y, z, h, h2⟩ := B
  exact ⟨x, y, z, s _ _ h, h2⟩
theorem Bq.put (B : Bq H b n) (h : H p = none) : Bq (upd H p o) b n := B.same (same_upd h)
theorem Bq.wr (B : Bq H b n) (h : p ≠ b) : Bq (upd H p o) b n := by
  obtain ⟨x, y, z, e, h2⟩ := B
  exact ⟨x, y, z, by rw [upd_ne h.symm]; exact e, h2⟩
theorem Bq.mono (B : Bq H b n) (h : n ≤ m) : Bq H b m := by
  obtain ⟨x, y, z, e, h1, h2⟩ := B
  exact ⟨x, y, z, e, h1, by omega⟩
theorem Bq.ne (B : Bq H b n) (h : H p = none) : p ≠ b := B.bx.ne h
theorem Live.q (B : Bq H b n) : Live [b] H := Live.one B.bx
end
theorem b01 (k : Bool) : -(2 ^ 64 : Int) < (if k = true then 1 else 0) ∧ (if k = true then 1 else 0) < (2 ^ 64 : Int) := by cases k <;> decide
theorem CDivW.of {i j : Int} (h0 : 0 < j) (h1 : j < 2 ^ 64) : CDivW i j := by
  refine ⟨h0, ?_⟩
  have z : j.natAbs ≠ 0 := by omega
  have := (Nat.log2_lt z).mpr (show j.natAbs < 2 ^ 64 by omega)
  omega
mutual
theorem gd_lay {m : Nat} : ∀ d : PyData, gd m d → d.canLay0 = true
  | .none, _ => rfl
  | .bool _, _ => rfl
  | .int _, _ => rfl
  | .str x, g => by
    show x.cps.all (fun c => decide (c < 0x110000)) = true
    rw [← Array.all_toList, List.all_eq_true]
    exact fun c hc => decide_eq_true (g.2 c hc)
  | .list xs, g => gdAll_lay xs g
  | .tuple xs, g => gdAll_lay xs g
  | .dict _, g => g.elim
theorem gdAll_lay {m : Nat} : ∀ ds : List PyData, gdAll m ds → PyData.canLayAll0 ds = true
  | [], _ => rfl
  | x :: xs, g => by
    show (x.canLay0 && PyData.canLayAll0 xs) = true
    rw [gd_lay x g.1, gdAll_lay xs g.2]; rfl
end
theorem Th.shaped {m C D W : Nat} {d : PyData} (h : Th m C D W d) (hD : D ≤ 64) : SeqAt.shaped d = true := by
  unfold SeqAt.shaped
  rw [gd_lay d h.g, decide_eq_true (Nat.le_trans h.d hD)]; rfl
theorem gd_shaped {m : Nat} {d : PyData} (h : gd m d) (hD : d.depth ≤ 64) : SeqAt.shaped d = true := by
  unfold SeqAt.shaped
  rw [gd_lay d h, decide_eq_true hD]; rfl
end Pot

set_option maxHeartbeats 2000000
namespace RLam
open PySem PySem.Spec PyProof.Rows L2 PySem.Calls
/-! ### a lambda with one value by place, its answer the first part of a row of a captured list, turned -/
section
variable {prog : Program} {w : World} {B : Around} {s : Shared}
theorem ld_captured {E : Value → Shared → Prop} {env : Env} {o : Str} {co : Addr} {v : Value} {Q : Value → Shared → Prop} {p : Pos} (hk : env.scope.kind = .function) (hl : env.kindOf o = some .free) (hc : env.cells.lookup o = some co) (hv : s.heap.IsCell co (some v))
    (h : Q v s) (hd : (o == ("__debug__" : Str)) = false) (hcd : (o == ("__classdict__" : Str)) = false) : wpAny (model prog w) B (eval (.Name o p) env) Q E s :=
  wpAny_Name (wpAny_loadName_free hk hl hc hv h hcd) hd
theorem ld_own {E : Value → Shared → Prop} {env : Env} {o : Str} {m : Str → Option Value} {v : Value} {Q : Value → Shared → Prop} {p : Pos} (hk : env.scope.kind = .function) (hl : env.kindOf o = some .local) (hn : s.heap.Ns env.locals m) (hv : m o = some v)
    (h : Q v s) (hd : (o == ("__debug__" : Str)) = false) : wpAny (model prog w) B (eval (.Name o p) env) Q E s :=
  wpAny_Name (wpAny_loadName_local hk hl hn hv h) hd
theorem turn_neg {f c' co L tp : Addr} {q o n : Str} {params : Arguments} {scope : Scope} {cl : List (Str × Addr)} {pm ctv : Value} {its us : List Value} {i : Nat} {t0 t1 : Tok} {r : Int} {p1 p2 p3 p4 p5 p6 : Pos} {j : Nat}
    (hf : s.heap.get? f = some (PySem.W.kla_obj "<lambda>" q params (.UnaryOp .USub (.Subscript (.Subscript (.Name o p1) (.Name n p2) p3) (.Constant (.int 0) j p4) p5) p6) scope cl pm c' ctv))
    (hcd : ∃ (oc : Obj) (vs : Array Value) (t : Tok), s.heap.get? c' = some oc ∧ oc.data = .fields vs ∧ vs[1]? = some (.str q t))
    (hroom : B.depth < recursionLimit) (lim : s.heap.NoLimit) (hco : scope.isCoroutine = false) (hge : scope.isGenerator = false) (hk : scope.kind = .function) (hnc : ∀ x ∈ scope.names, x.2 ≠ .cell)
    (hn : scope.names.lookup n = some .local) (ho : scope.names.lookup o = some .free)
    (hbind : ∀ (u v : Value), bindArgs (PySem.W.kla_fn "<lambda>" q params (.UnaryOp .USub (.Subscript (.Subscript (.Name o p1) (.Name n p2) p3) (.Constant (.int 0) j p4) p5) p6) scope cl pm u ctv) ⟨[v], []⟩ = pure [(n, v)])
    (hcl : cl.lookup o = some co) (hcell : s.heap.IsCell co (some (.ref L))) (hL : s.heap.IsList L its.toArray) (hi : its[i]? = some (.ref tp)) (hi63 : i < 2 ^ 63) (hT : IsTup s.heap tp us.toArray) (hu : us[0]? = some (.int r t1)) (hus : us.length < 2 ^ 63)
    (hd1 : (o == ("__debug__" : Str)) = false := by decide) (hd2 : (o == ("__classdict__" : Str)) = false := by decide) (hd3 : (n == ("__debug__" : Str)) = false := by decide) :
    wpAny (model prog w) B (call (.ref f) [.int (i : Int) t0]) (PySem.W.KeyPure (.int (-r)) s) (fun _ _ => False) s := by
  refine wpAny_call (PySem.W.kla_callFunE hroom hf rfl hco hge rfl ?_ ?_)
  · obtain ⟨oc, vs, t, a, b, c⟩ := hcd
    exact ⟨c', oc, vs, t, rfl, a, b, c⟩
  rw [hbind]
  refine wpAny_pure (wpAny_newFunctionEnv hnc (fun y hy => ?_) (fun h₁ hns hsb => ⟨lim.fresh _ hsb, ?_⟩) hk)
  · rw [List.mem_singleton] at hy
    rw [hy]
    exact hn
  have kp : ∀ b o, s.heap.get? b = some o → h₁.get? b = some o := fun b o e => hsb.extBut b o (Nat.ne_of_lt (Heap.lt_size e)) (Heap.get?_push_of_some _ e)
  have hcell' : h₁.IsCell co (some (.ref L)) := by
    obtain ⟨oc, e1, e2⟩ := hcell
    exact ⟨oc, kp _ _ e1, e2⟩
  have hL' : h₁.IsList L its.toArray := by
    obtain ⟨oc, e1, e2⟩ := hL
    exact ⟨oc, kp _ _ e1, e2⟩
  have hT' : IsTup h₁ tp us.toArray := hT.keeps kp
  refine PySem.W.kla_codeExpr ?_
  refine UnaryOp_ (Subscript_ (Subscript_ (ld_captured hk ho hcl hcell' (ld_own (v := .int (i : Int) t0) hk hn hns ?_ ?_ hd3) hd1 hd2)))
  · show ([(n, Value.int (i : Int) t0)] : List (Str × Value)).reverse.lookup n = _
    simp [List.lookup]
  · have l63 := line63
    refine item_listR (x := .ref tp) hL' (by omega) (by omega) (by simpa using hi) ?_ (by with_unfolding_all rfl)
    refine wpAny_Constant_int ?_
    refine subscriptTail_builtinR (x := .int r t1) hT'.typeIs slot_tuple_getitem.lookup (getItem_tuple (j := 0) (x := .int r t1) (Q := fun u s' => u = .int r t1 ∧ _) hT' (by omega) (by omega) ?_ ?_ ⟨rfl, ?_⟩) (by with_unfolding_all rfl)
    · rw [List.size_toArray]
      have hz : 0 < us.length := (List.getElem?_eq_some_iff.mp hu).1
      exact seqIndex_of (by omega) (by omega)
    · simpa using hu
    · exact neg_int ⟨_, _, rfl, fun b o e => kp b o e, .int _ _⟩
end

/-! ### lists of values -/
theorem each_of {β : Type} {f : β → V} : ∀ {bs : List β} {us : List Value}, Vals (bs.map f) us → PySem.W.EachIs (fun u b => RelV (f b) u) us bs
  | [], _, r => by
    cases r
    exact .nil
  | b :: bs, _, r => by
    cases r with
    | cons a r => exact .cons a (each_of r)
theorem of_each {β : Type} {f : β → V} : ∀ {bs : List β} {us : List Value}, PySem.W.EachIs (fun u b => RelV (f b) u) us bs → Vals (bs.map f) us
  | _, _, .nil => .nil
  | _, _, .cons a r => .cons a (of_each r)
theorem sqL_ext {K : PySem.W.Frag} {H H' : Hp} {a : Addr} {xs : List V} (h : SqL K H a xs) (e : LamX.ExtN H H') : SqL K H' a xs := by
  rcases h with (h | ⟨o, h⟩) | h
  · exact .inl (.inl (e _ _ h fun ps z => by cases z))
  · exact .inl (.inr ⟨o, e _ _ h fun ps z => by cases z⟩)
  · exact .inr h
theorem sqT_ext {K : PySem.W.Frag} {H H' : Hp} {a : Addr} {xs : List V} (h : SqT K H a xs) (e : LamX.ExtN H H') : SqT K H' a xs := by
  rcases h with (h | ⟨o, h⟩) | h
  · exact .inl (.inl (e _ _ h fun ps z => by cases z))
  · exact .inl (.inr ⟨o, e _ _ h fun ps z => by cases z⟩)
  · exact .inr h
/-- the names of a lambda with the parameter n that reads o -/
structure LamN (sc scope : Scope) (n o : Str) : Prop where
  kind : scope.kind = .function
  co : scope.isCoroutine = false
  gen : scope.isGenerator = false
  cells : ∀ x ∈ scope.names, x.2 ≠ .cell
  par : scope.names.lookup n = some .local
  free : scope.names.lookup o = some .free
  up : ∀ y ∈ scope.names, y.2 = .free → sc.names.lookup y.1 = some .cell ∨ sc.names.lookup y.1 = some .free
theorem cr_range1 {X : Cx} : CallR X (.type "range") (fun vs H Q => ∃ i, vs = [V.int i] ∧ ∀ p, H p = none → Q (.ref p) (upd H p (.rng 0 i))) := by
  intro pins s σ H vs us Q I r h
  obtain ⟨i, rfl, q⟩ := h
  obtain ⟨u1, rfl, ri⟩ := vals1 r
  obtain ⟨t, rfl⟩ := ri
  refine call_range_1 ⟨.ref s.heap.objs.size, upd H s.heap.objs.size (.rng 0 i), I.laid (t' := s.toks + 2) (fun b o e => Heap.get?_push_of_some _ e) (Nat.le_refl _) ?_, rfl, q _ (I.hok.fresh (Nat.le_refl _))⟩
  exact ⟨_, _, _, Heap.get?_push_size _ rfl⟩
/-- sorted(range(m), key=lambda n: -o[n][0]) -/
def tSortLam (K : PySem.W.Frag) (T : List (Addr × Str)) (io : Nat) (ta : TA) : TE := fun σ H Q => ta σ H fun vs H1 => ∃ (p L : Addr) (m : Nat) (xs : List V) (rk : Nat → Int), vs = [V.ref p] ∧ H1 p = some (.rng 0 (m : Int)) ∧ m ≤ 2 ^ 24 ∧ LamX.Tabs T H1 ∧
  σ[io]? = some (some (.ref L)) ∧ SqL K H1 L xs ∧ (∀ i, i < m → ∃ (tp : Addr) (us : List V), xs[i]? = some (.ref tp) ∧ SqT K H1 tp us ∧ us[0]? = some (.int (rk i))) ∧
  ∀ H2, LamX.ExtN H1 H2 → LamX.Tabs T H2 → ∀ q, H2 q = none → Q (.ref q) (upd H2 q (.lst (((List.range m).mergeSort fun i j => decide (-rk i ≤ -rk j)).map fun i : Nat => V.int (i : Int))))
section
variable {X : Cx} {k : Nat} {T : List (Addr × Str)} {io : Nat} {ta : TA} {e : Expr} {n o : Str} {c P : Addr} {params : Arguments} {scope : Scope} {p kpos lpos pos p1 p2 p3 p4 p5 p6 : Pos} {j : Nat}
theorem pe_sortLam (hc : X.calm = true) (hg : Gl X "sorted") (hm : X.mg "sorted" = none) (ha : PA X [e] ta) (TB : LamX.TabB X.base X.mg c P) (hcode : X.env.code = .ref c) (hmT : (P, X.env.qual ++ "<lambda>") ∈ T) (hu : ∀ p ∈ T, p.1 = P → p.2 = X.env.qual ++ "<lambda>")
    (hr : Room (k + 1) X.A) (L : LamN X.env.scope scope n o) (hN : X.N[io]? = some o) (hdef : defaultsOf params X.env = ([], []))
    (hbind : ∀ (q : Str) (cl : List (Str × Addr)) (pm ctv u v : Value), bindArgs (PySem.W.kla_fn "<lambda>" q params (.UnaryOp .USub (.Subscript (.Subscript (.Name o p1) (.Name n p2) p3) (.Constant (.int 0) j p4) p5) p6) scope cl pm u ctv) ⟨[v], []⟩ = pure [(n, v)])
    (hd1 : (o == ("__debug__" : Str)) = false := by decide) (hd2 : (o == ("__classdict__" : Str)) = false := by decide) (hd3 : (n == ("__debug__" : Str)) = false := by decide)
    (he : backTo pos (starEach [e] X.env) = (false, eval e X.env) :: backTo pos (starEach [] X.env) := by rfl) (hpl : (backTo pos (starEach [e] X.env)).any (·.1) = false := by rfl) :
    PE X (.Call (.Name "sorted" p) [e] [⟨some "key", .Lambda params (.UnaryOp .USub (.Subscript (.Subscript (.Name o p1) (.Name n p2) p3) (.Constant (.int 0) j p4) p5) p6) scope lpos, kpos⟩] pos) (tSortLam X.K T io ta) := by
  refine ⟨fun pins s σ H Q I h => ?_⟩
  refine wpAny_Call_Name_kw (ld_blt I hg hm (by rfl) ?_)
  refine PyProof.Rows.callWith_kw (thn (ha.run pos pins s σ H _ I h) fun us s1 ⟨vs, H1, I1, r1, q1⟩ => ?_) he hpl (by rfl) (by rfl)
  obtain ⟨pr, La, m, xs, rk, rfl, hpr, hm24, hT, hσ, hL, hrow, q⟩ := q1
  obtain rfl := Vals.ref1 r1
  have hfree : ∀ y ∈ scope.names, y.2 = .free → ∃ c, X.env.cells.lookup y.1 = some c := fun y hy e => by
    rcases L.up y hy e with k | k
    · exact I1.ok.has _ (.inl k)
    · exact I1.ok.has _ (.inr k)
  show wpAny _ _ (evalAll [do let v ← eval _ X.env; standAt pos; pure v]) _ _ s1
  refine wpAny_evalAll_cons (wpAny_bind (LamX.lam_make2 I1 TB hcode hmT hu hT hdef hfree fun f c' pm ctv H2 s2 I2 eN T2 hf hfn hfr hco => wpAny_bind (wpAny_standAt (wpAny_pure (wpAny_evalAll_nil ?_)))))
  show wpAny _ _ (call (.builtin "sorted") [.ref pr] [(Str.ofString "key", .ref f)]) _ _ _
  obtain ⟨tr, tr2, tr3, hrg⟩ := I2.hok pr _ (eN _ _ hpr fun ps z => by cases z)
  obtain ⟨⟨oc, vsc, tc, hoc, hdc, hvc⟩, _, _⟩ := I2.hok c' _ hco
  obtain ⟨its, rv, pl, hz⟩ := I2.list (sqL_ext hL eN)
  have hup := L.up (o, .free) (PySem.mem_of_lookup L.free) rfl
  obtain ⟨mm, hns, hlk⟩ := I2.loc
  obtain ⟨u0, ru0, hlook⟩ := hlk io o (.ref La) hN hσ (hup.elim (fun z => .inr (.inl z)) (fun z => .inr (.inr z)))
  obtain rfl : u0 = Value.ref La := ru0
  obtain ⟨co, hcc, hcell⟩ : ∃ co, X.env.cells.lookup o = some co ∧ s2.heap.IsCell co (some (.ref La)) := by
    rcases hlook with ⟨z, _⟩ | ⟨_, z⟩
    · have z : X.env.scope.names.lookup o = some .local := z
      rcases hup with y | y <;> rw [show X.env.scope.names.lookup o = _ from y] at z <;> cases z
    · exact z
  have hcl : (cloFrom X.env.cells scope.names []).lookup o = some co := by
    obtain ⟨c1, e1⟩ := mem_lookup (cloFrom_has (cells := X.env.cells) (acc := []) (PySem.mem_of_lookup L.free))
    rcases cloFrom_mem (PySem.mem_of_lookup e1) with hm | ⟨h1, h2⟩
    · cases hm
    · rw [e1, h2, hcc]
      rfl
  have lim2 := I2.nolimit
  refine PyProof.Rows.call_function_entry_kw PyProof.Rows.kind_sorted PyProof.Rows.plain_sorted PyProof.Rows.entry_sorted (PyProof.Rows.ksk_s1 _ _) ?_
  unfold Builtin.«sorted»
  refine wpAny_bind (m := checkCount "sorted" 1 1 _) (wpAny_pure ?_)
  refine wpAny_bind (L2.collect_range (A := X.A.in1) (a := 0) (b := (m : Int)) (c := 1) (n := m) (I2.ok.hd hc) hrg (small_one (by omega) (by omega) (by omega) (by omega)) (by have e := rangeSize_nat 0 (m : Int); rw [e]; omega) hm24 fun h' tk acc hk hacc => ?_)
  have I3 : Inv X pins σ H2 { s2 with heap := h', toks := tk } := I2.kept hk
  have hal : acc.toList.length = m := by rw [Array.length_toList]; exact hacc.1
  refine wpAny_bind (wpAny_newList ?_ (by rw [hal, sizeLine_eq]; omega))
  have hoL : (h'.push (seqObj "list" acc.toList.toArray 0)).get? h'.objs.size = some (seqObj "list" acc.toList.toArray 0) := Heap.get?_push_size _ rfl
  show wpAny _ _ _ _ _ { s2 with heap := h'.push (seqObj "list" acc.toList.toArray 0), toks := tk }
  have hE : PySem.W.EachIs (fun (u : Value) (i : Nat) => RelV (V.int (i : Int)) u) acc.toList (List.range m) := by
    refine each_of ?_
    rw [← hal]
    refine vals_of_get acc.toList _ fun j u hj => ?_
    obtain ⟨t, rfl⟩ := hacc.2 j u (by rw [← hj, Array.getElem?_toList])
    exact ⟨t, by rw [Int.mul_one, Int.zero_add]⟩
  have old : ∀ b o, s2.heap.get? b = some o → b ≠ h'.objs.size ∧ (h'.push (seqObj "list" acc.toList.toArray 0)).get? b = some o := fun b o e => ⟨Nat.ne_of_lt (Heap.lt_size (hk b o e)), Heap.get?_push_of_some _ (hk b o e)⟩
  refine wpAny_bind (wpAny_holding (PySem.W.list_sort_key_data (b := false) (s := { s2 with heap := h'.push (seqObj "list" acc.toList.toArray 0), toks := tk }) (fun i : Nat => PyData.int (-rk i)) hoL hE (PySem.W.AllAlike.of fun _ _ => rfl) (PySem.W.Sortable.others fun b => ⟨fun z => (nomatch z), fun xs z => (nomatch z)⟩) (by rw [List.length_range, sizeLine_eq]; omega)
    (fun x _ => ?_) (PyProof.Rows.ksk_l1 _ _) (PyProof.Rows.ksk_t1 _ _) (fun v i hv hi hh tk2 kp => ?_) fun out cc hh tk2 kp hD hlen eo => ?_))
  · have := hr.un
    show X.A.units + 1 + 1 + 0 < _
    omega
  · obtain ⟨t0, rfl⟩ := hv
    have hi' : i < m := List.mem_range.mp hi
    obtain ⟨tp, us, hx, hS, hu0⟩ := hrow i hi'
    have kp2 : ∀ b o, s2.heap.get? b = some o → hh.get? b = some o := fun b o e => kp b o (old b o e).1 (old b o e).2
    obtain ⟨w1, ew, rw1⟩ := rv.get hx
    obtain rfl : w1 = Value.ref tp := rw1
    obtain ⟨us', rv', pl', hz'⟩ := I2.tuple (sqT_ext hS eN)
    obtain ⟨w2, ew2, rw2⟩ := rv'.get hu0
    obtain ⟨t3, rfl⟩ := rw2
    have l63 := line63
    have hpL : hh.IsList La its.toArray := by
      obtain ⟨oc, e1, e2⟩ := pl.isList
      exact ⟨oc, kp2 _ _ e1, e2⟩
    have hpC : hh.IsCell co (some (.ref La)) := by
      obtain ⟨oc, e1, e2⟩ := hcell
      exact ⟨oc, kp2 _ _ e1, e2⟩
    exact turn_neg (s := { s2 with heap := hh, toks := tk2 }) (kp2 _ _ hf) ⟨oc, vsc, tc, kp2 _ _ hoc, hdc, hvc⟩ hr.depth (lim2.keeps kp2) L.co L.gen L.kind L.cells L.par L.free (fun u v => hbind _ _ _ _ _ _) hcl hpC hpL ew (by omega) (pl'.keeps kp2) ew2 (by have := rv'.length; omega) hd1 hd2 hd3
  · rw [PySem.W.dataLe_int] at eo
    have hE2 : Vals (((List.range m).mergeSort fun i j => decide (-rk i ≤ -rk j)).map fun i : Nat => V.int (i : Int)) out := of_each eo
    refine wpAny_pure ⟨_, rfl, .ref h'.objs.size, upd H2 h'.objs.size (.lst _), I3.laid (t' := tk2) (fun b u e => ?_) (Nat.le_refl _) ⟨?_, out, cc, hE2, hD⟩, rfl, q H2 eN T2 _ (I3.hok.fresh (Nat.le_refl _))⟩
    · exact kp b u (Nat.ne_of_lt (Heap.lt_size e)) (Heap.get?_push_of_some _ e)
    · rw [List.length_map, List.length_mergeSort, List.length_range, sizeLine_eq]
      omega
end
end RLam

namespace Pot
open PySem PySem.Spec PyProof.Rows L2
section
variable {X : Cx} {K : PySem.W.Frag}
/-- len of a set of ints -/
def rLenSet (w : World) : List V → Hp → VK → Prop := fun xs H Q => ∃ (a : Addr) (S : Int → Bool) (n : Nat), xs = [V.ref a] ∧ H a = some (SetO w a S n) ∧ Q (.int n) H
theorem cr_lenSet : CallR X (.builtin "len") (rLenSet X.w) := by
  intro pins s σ H vs us Q I r h
  obtain ⟨a, S, n, rfl, ha, q⟩ := h
  rw [Vals.ref1 r]
  obtain ⟨o, es, ep, t, ho, hex, hd, _, _, _, hb, hf, rfl, _⟩ := setO_get I ha
  exact PySem.call_len_set ho hex hd hf (by unfold scanBound at hb; omega) ⟨.int _, H, I.tok _, ⟨_, rfl⟩, q⟩
theorem kc_lenSet {w : World} (hw : X.w = w := by rfl) : CallR X (.builtin "len") (rLenSet w) := by subst hw; exact cr_lenSet
/-- repr of any data -/
def rReprA (K : PySem.W.Frag) : List V → Hp → VK → Prop := fun xs H Q => ∃ (x : V) (d : PyData), xs = [x] ∧ Dp K H x d ∧ fineAll.fine d ∧ d.depth ≤ 60 ∧ costAll.cost d ≤ 16777216 ∧ Q (.str d.shown) H
theorem cr_reprA (gd : X.A.guards = some []) (hu : X.A.units + 64 < cLine) : CallR X (.builtin "repr") (rReprA X.K) := by
  intro pins s σ H vs us Q I r h
  obtain ⟨x, d, rfl, dp, sh, dep, sz, q⟩ := h
  obtain ⟨u, rfl, rx⟩ := vals1 r
  have sz2 := Nat.le_trans (shown_len d sh) (by rw [sizeLine_eq]; exact sz : costAll.cost d ≤ sizeLine)
  cases x with
  | ref a =>
    cases rx
    obtain ⟨as, rd⟩ := Dp.reads I d (.ref a) (.ref a) dp rfl
    refine repr_of_reads' rd (fine_show d sh) (fun z => ?_) gd (by omega) (fun _ _ e => e) (fun h' u tk k => ⟨.str d.shown, H, I.kept k, ⟨u, rfl⟩, q⟩) sz2
    rw [dp_noDict dp] at z
    cases z
  | int i =>
    cases dp
    obtain ⟨t, rfl⟩ := rx
    exact PySem.P.repr_of_int sh ⟨.str _, H, I.tok _, ⟨_, rfl⟩, q⟩
  | str z =>
    cases dp
    obtain ⟨t, rfl⟩ := rx
    exact PySem.P.repr_of_str ⟨.str _, H, I.tok _, ⟨_, rfl⟩, q⟩ sz2
  | bl b =>
    cases dp
    cases rx
    refine PySem.P.repr_of_bool ⟨.str _, H, I.tok _, ⟨_, rfl⟩, ?_⟩
    exact q
  | non =>
    cases dp
    cases rx
    exact PySem.P.repr_of_none ⟨.str _, H, I.tok _, ⟨_, rfl⟩, q⟩
  | _ => cases dp
theorem kc_reprA (gd : X.A.guards = some []) (hu : X.A.units + 64 < cLine) (h : X.K = K := by rfl) : CallR X (.builtin "repr") (rReprA K) := h ▸ cr_reprA gd hu
end
theorem short_of {α : Type} [DecidableEq α] : ∀ {ns : List α}, ¬ ns.Nodup → ∃ ns' : List α, ns'.length < ns.length ∧ ∀ k ∈ ns, k ∈ ns'
  | [], h => (h List.nodup_nil).elim
  | x :: ns, h => by
    by_cases hx : x ∈ ns
    · exact ⟨ns, by simp, fun k hk => by
        rcases List.mem_cons.mp hk with e | e
        · rw [e]; exact hx
        · exact e⟩
    · obtain ⟨ns', l, s⟩ := short_of (ns := ns) fun hn => h (List.nodup_cons.mpr ⟨hx, hn⟩)
      exact ⟨x :: ns', by simp only [List.length_cons]; omega, fun k hk => by
        rcases List.mem_cons.mp hk with e | e
        · rw [e]; exact List.mem_cons_self
        · exact List.mem_cons_of_mem _ (s k e)⟩
theorem set_count {ks ns : List Int} (hk : ks.Nodup) (h : ∀ k, k ∈ ks ↔ k ∈ ns) : ks.length ≤ ns.length ∧ (ks.length = ns.length ↔ ns.Nodup) := by
  have le := nodup_le hk fun k x => (h k).mp x
  refine ⟨le, fun e => ?_, fun hn => Nat.le_antisymm le (nodup_le hn fun k x => (h k).mpr x)⟩
  by_cases hn : ns.Nodup
  · exact hn
  · obtain ⟨ns', l, s⟩ := short_of hn
    have := nodup_le hk fun k x => s k ((h k).mp x)
    omega
end Pot

namespace Pot
open PySem PySem.Spec PyProof.Rows L2
section
variable {X : Cx} {K : PySem.W.Frag}
theorem ko_inD (hu : X.A.units + 65 < cLine) (h : X.K = K := by rfl) : OpR X (compareOp .In) (rInD K) := h ▸ op_inD hu
theorem ko_notInD (hu : X.A.units + 65 < cLine) (h : X.K = K := by rfl) : OpR X (compareOp .NotIn) (rNotInD K) := h ▸ op_notInD hu
/-- a text thrice -/
def rRep3 : R2 := fun x y H Q => ∃ z : Str, x = .str z ∧ y = .int 3 ∧ z.length ≤ 100000 ∧ ∀ z' : Str, z'.length ≤ 3 * z.length → (∀ c ∈ z'.cps.toList, c ∈ z.cps.toList) → Q (.str z') H
theorem mul3_len (z : Str) : (Txt.mul z 3).length ≤ 3 * z.length ∧ ∀ c ∈ (Txt.mul z 3).cps.toList, c ∈ z.cps.toList := by
  unfold Txt.mul
  rw [if_neg (show ¬ (3 : Int) < 1 by decide)]
  split
  · exact ⟨by omega, fun c h => h⟩
  · constructor
    · show Array.size _ ≤ _
      simp [List.replicate]
      show z.cps.size + (z.cps.size + z.cps.size) ≤ 3 * z.cps.size
      omega
    · intro c h
      simp [List.replicate] at h
      simpa using h
theorem op_rep3 : OpR X (binaryOp .Mult) rRep3 := by
  intro pins sh sg H xv yv v1 u1 Q I r1 r2 h
  obtain ⟨z, rfl, rfl, hz, q⟩ := h
  obtain ⟨tk1, rfl⟩ := r1
  obtain ⟨tk2, rfl⟩ := r2
  have m3 := mul3_len z
  refine SB.mul ⟨by decide, fun _ _ hh => ?_, fun _ _ => ?_⟩ (fun tt kk => ⟨.str (Txt.mul z 3), H, I.tok _, ⟨_, rfl⟩, q _ m3.1 m3.2⟩)
  · have : ((2 : Int) ^ 63 - 1) / 3 = 3074457345618258602 := by decide
    omega
  · have e : (3 : Int).toNat = 3 := rfl
    rw [e]
    show decide _ = false
    refine decide_eq_false ?_
    have := sizeLine_eq
    omega
end
end Pot

namespace Pot
open PySem PySem.Spec PyProof.Rows L2
open Sem (wp)
/-! ### enumerate of a list or a tuple -/
set_option maxHeartbeats 1000000 in
theorem en_new {v : Value} {ob : Obj} {Ok : Heap → Prop} (B : Begins v ob Ok) :
    Meets (Builtin.«enumerate.__new__» ⟨[.type "enumerate", v], []⟩) (fun _ R s => Ok s.heap ∧ R (.ok (.ret (.ref (s.heap.push ob).objs.size))) { s with heap := (s.heap.push ob).push { cls := .type "enumerate", data := .fields #[.none, .bool false, .ref s.heap.objs.size, rawInt 0, .none, .none] } }) :=
  .of_wp fun prog w A R st hst => by
    obtain ⟨hp, gl, dd, tt, oo⟩ := st; obtain ⟨ok1, fin⟩ := hst; have isub := sub_enumerate
    have go : ∀ {A1 : Around} {E1 : Value → Shared → Prop} {Q1 : Value → Shared → Prop}, Q1 (.ref hp.objs.size) ⟨hp.push ob, gl, dd, tt, oo⟩ → wpAny (model prog w) A1 (pyIter v) Q1 E1 ⟨hp, gl, dd, tt, oo⟩ := fun z => B.iter prog w _ _ ⟨hp, gl, dd, tt, oo⟩ _ ok1 z
    wp_walk using go
    refine wpAny_stack_any fun stk => wpAny_pure ?_
    split
    · rename_i cc _ _ _ _ _; cases (cc == Value.type "enumerate") <;> (wp_walk using go; exact ⟨_, rfl, fin⟩)
    · wp_walk using go; exact ⟨_, rfl, fin⟩
/-- some untracked cells written, nothing new -/
theorem inv_ch {X : Cx} {pins : List (Addr × Obj)} {σ : L2.St} {H : Hp} {s : Shared} {h2 : Heap} {tk : Nat} {ch : List Addr} (I : Inv X pins σ H s) (kp : ∀ b o, b ∉ ch → s.heap.get? b = some o → h2.get? b = some o) (fo : ∀ b ∈ ch, FpOk X pins H b) :
    Inv X pins σ H { s with heap := h2, toks := tk } := by
  have out : ∀ c u, H c = some u → c ∉ ch := fun c u e z => by have := (fo c z).1; rw [this] at e; cases e
  refine I.step (g' := s.gens) (d' := s.drawn) (ch := ch) (fun c hc => let ⟨_, a2, _, a4, a5, a6⟩ := fo c hc; ⟨a4, a2, a5, a6⟩) (fun c o _ _ n e _ => kp c o n e) (fun c o _ _ n e _ => ⟨o.slots, kp c o n e⟩) (fun _ _ _ _ z => z) (fun c o n e => ⟨o, kp c o n e⟩) (fun _ _ z => z) (fun _ _ _ z => z) (fun c ps e => ⟨#[], by rw [e]; simp⟩) (fun mm hm => ?_) (fun c u e => ?_) I.bare
  · obtain ⟨o, e1, e2, ho, rest⟩ := hm; exact ⟨o, e1, e2, kp _ o (fun z => (fo _ z).2.1 rfl) ho, rest⟩
  · refine (I.hok c u e).stay (fun c2 v hc q => kp c2 v ?_ q) (fun _ z => z) fun _ _ z => z
    rcases hc with z | z
    · rw [z]; exact out c u e
    · exact out c2 _ z
def ItT (K : PySem.W.Frag) (a : Addr) : It :=
  ⟨fun i H => ∃ (xs : List V) (x : V), SqT K H a xs ∧ xs[i]? = some x, fun i H v H' => ∃ T x, v = .ref T ∧ H T = none ∧ H' = upd H T (.tup [.int (i : Nat), x]) ∧ ∀ xs, SqT K H a xs → xs[i]? = some x, fun i H => ∃ xs : List V, SqT K H a xs ∧ xs.length ≤ i⟩
/-- an iterator of a tuple that has come to its end -/
theorem drawsEnd {prog : Program} {w : World} {A : Around} (hh : A.handled = none) (it t : Addr) (items : Array Value) (i : Nat) (hi : items[i]? = none) :
    Draws prog w A it [it, t] i (fun _ _ => False) (fun j h => j = i ∧ h.IsTupleIter it t j ∧ h.IsTuple t items) where
  live := fun _ _ st => let ⟨o, ho, _⟩ := st.2.1; ⟨o, ho⟩
  frame := fun _ _ _ st hk => ⟨st.1, st.2.1.at fun o e => hk it (by simp) o e, st.2.2.at fun o e => hk t (by simp) o e⟩
  item := fun j _ _ _ hj st _ => absurd st.1 (Nat.ne_of_lt hj)
  done := fun s Q E st hE => wpAny_nextOf_tuple_end hh st.2.1 st.2.2 hi hE
theorem turn_enT {P : Program} {w : World} {K : PySem.W.Frag} {elts : List Expr} {kk : Nat} {tpos : Pos} (a e it : Addr) (ne1 : e ≠ it) :
    Turn P w K (.Tuple elts kk tpos) (ItT K a) [e, it] e (fun i h => (∃ old, IsEnum h e it (0 + ((i : Nat) : Int)) old) ∧ h.IsTupleIter it a i) where
  mem := by simp
  obj := fun i h st b hb => by
    obtain ⟨⟨old, he⟩, ⟨o, ho, hc, hd⟩⟩ := st
    rcases List.mem_cons.mp hb with z | z
    · rw [z]; exact ⟨_, he, fun v q => nomatch q⟩
    · rw [List.mem_singleton.mp z]; exact ⟨o, ho, fun v q => by rw [hd] at q; cases q⟩
  keep := fun i h h' st k => let ⟨⟨old, he⟩, hi⟩ := st; ⟨⟨old, k e (by simp) _ he⟩, hi.at fun o q => k it (by simp) o q⟩
  item := by
    intro X q1 q2 q3 hc i pins s σ H E I hf st hg; subst q1 q2 q3
    obtain ⟨⟨old, he⟩, hit⟩ := st
    obtain ⟨xs, x, hq, hx⟩ := hg
    obtain ⟨its, vals_, p, _⟩ := I.tuple hq
    obtain ⟨u, hu, ru⟩ := vals_.get hx
    have at_ : its.toArray[i]? = some u := by simpa using hu
    have hlt : i < its.toArray.size := (Array.getElem?_eq_some_iff.mp at_).1
    have nt : ∀ b ∈ [e, it], a ≠ b := fun b hb z => by
      obtain ⟨o, ho, cl, _⟩ := p
      rcases List.mem_cons.mp hb with y | y
      · rw [z, y] at ho
        rw [show s.heap.get? e = _ from he] at ho; cases ho; injection cl with cl; exact absurd cl (by decide)
      · rw [z, List.mem_singleton.mp y] at ho
        obtain ⟨o2, ho2, cl2, _⟩ := hit
        rw [ho2] at ho; cases ho
        rw [cl2] at cl; injection cl with cl; exact absurd cl (by decide)
    have G := GoesN.enumFrom (elts := elts) (x1 := kk) (pos := tpos) 0 (Draws.tuple (prog := X.prog) (w := X.w) (A := X.A.in1) (I.ok.hd hc) it a (nt it (by simp)) its.toArray) e ne1 (by simp [ne1, (nt e (by simp)).symm]) (by simp)
    refine G.goes i s _ _ hlt ⟨⟨old, he⟩, hit, p⟩ fun v h2 tk hY st2 hk _ => ?_
    obtain ⟨T, t, u2, rfl, hn, hu2, hT⟩ := hY
    have eu : u2 = u := Option.some.inj (hu2.symm.trans at_)
    subst eu
    rw [Int.zero_add] at hT
    have new : ObjOk X.prog X.w (upd H T (.tup [.int (i : Nat), x])) h2 T (.tup [.int (i : Nat), x]) := ⟨by show 2 ≤ sizeLine; decide, [.int i t, u2], .cons ⟨_, rfl⟩ (.cons ru .nil), hT⟩
    have I1 : Inv X pins σ (upd H T (.tup [.int (i : Nat), x])) { s with heap := h2, toks := tk } := I.turnedNew (ch := [e, it]) (fun b ob hb q => hk b ob hb q) hf hn new
    refine ⟨.ref T, _, I1, rfl, ⟨T, x, rfl, I.hok.fresh hn, rfl, fun ys hy => by rw [I.tuple_inj hy hq]; exact hx⟩, ⟨st2.1, st2.2.1⟩, fun b hb => ?_⟩
    have hb0 := (hf b hb).1
    have hbT : b ≠ T := by
      rcases List.mem_cons.mp hb with y | y
      · rw [y]; exact Nat.ne_of_lt (Nat.lt_of_lt_of_le (Heap.lt_size he) hn)
      · rw [List.mem_singleton.mp y]
        obtain ⟨o2, ho2, _⟩ := hit
        exact Nat.ne_of_lt (Nat.lt_of_lt_of_le (Heap.lt_size ho2) hn)
    rw [upd_ne hbT]; exact hb0
  done := by
    intro X q1 q2 q3 hc i pins s σ H E I hf st hg; subst q1 q2 q3
    obtain ⟨⟨old, he⟩, hit⟩ := st
    obtain ⟨xs, hq, hx⟩ := hg
    obtain ⟨its, vals_, p, _⟩ := I.tuple hq
    have hl := vals_.length
    have nt : ∀ b ∈ [e, it], a ≠ b := fun b hb z => by
      obtain ⟨o, ho, cl, _⟩ := p
      rcases List.mem_cons.mp hb with y | y
      · rw [z, y] at ho
        rw [show s.heap.get? e = _ from he] at ho; cases ho; injection cl with cl; exact absurd cl (by decide)
      · rw [z, List.mem_singleton.mp y] at ho
        obtain ⟨o2, ho2, cl2, _⟩ := hit
        rw [ho2] at ho; cases ho
        rw [cl2] at cl; injection cl with cl; exact absurd cl (by decide)
    have G := GoesN.enumFrom (elts := elts) (x1 := kk) (pos := tpos) 0 (drawsEnd (prog := X.prog) (w := X.w) (A := X.A.in1) (I.ok.hd hc) it a its.toArray i (by simp; omega)) e ne1 (by simp [ne1, (nt e (by simp)).symm]) (by simp)
    exact G.stops s _ _ ⟨⟨old, he⟩, rfl, hit, p⟩ fun h2 tk hk _ => inv_ch I hk hf
  self := fun _ _ _ _ _ st fin => let ⟨⟨_, he⟩, _⟩ := st; wpAny_pyIter_enum he fin
/-- enumerate(v), v a list or a tuple -/
def iEnA (K : PySem.W.Frag) (ta : TA) : TI := fun σ H R => ta σ H fun vs H1 => ∃ a xs, vs = [.ref a] ∧ ((SqL K H1 a xs ∧ R (Ite K a) H1) ∨ (SqT K H1 a xs ∧ R (ItT K a) H1))
theorem pi_enA {X : Cx} {e : Expr} {ta : TA} {p pos tpos : Pos} {elts : List Expr} {kk : Nat} (hg : Gl X "enumerate") (hm : X.mg "enumerate" = none) (ha : PA X [e] ta) (hs : starEach [e] X.env = [(false, eval e X.env)] := by rfl) :
    PI X (.Tuple elts kk tpos) (.Call (.Name "enumerate" p) [e] [] pos) (iEnA X.K ta) := by
  refine ⟨fun pins s σ H R I hi => ?_⟩
  refine Call_ (ld_blt I hg hm boot_enumerate (PyProof.Rows.callWith_type1 (thn (ha.run pos pins s σ H _ I hi) fun us s1 ⟨vs, H1, I1, r1, q1⟩ => ?_) hs rfl))
  obtain ⟨a, xs, ex, q⟩ := q1
  subst ex
  cases r1 with
  | cons r rr =>
    cases rr; cases r
    rcases q with ⟨hq, q⟩ | ⟨hq, q⟩
    · obtain ⟨its, rv, p2, hz⟩ := I1.list hq
      refine call_enumerate_list p2.isList fun h2 he hit hsz hk => wpAny_pyIter_enum he ?_
      refine ⟨s1.heap.objs.size + 1, [s1.heap.objs.size + 1, s1.heap.objs.size], _, _, H1, rfl, I1.kept (t' := s1.toks) hk, turn_enum a (s1.heap.objs.size + 1) s1.heap.objs.size, ⟨⟨.none, he⟩, hit, Nat.succ_ne_self _⟩, fun b hb => ?_, q⟩
      have hge : s1.heap.objs.size ≤ b := by
        rcases List.mem_cons.mp hb with z | z
        · rw [z]; exact Nat.le_add_right _ _
        · rw [List.mem_singleton.mp z]; exact Nat.le_refl _
      exact I1.fpOk hge (I1.hok.fresh hge)
    · obtain ⟨its, rv, p2, hz⟩ := I1.tuple hq
      refine callType_new F.called_enumerate (by decide) (F.typeCall_enumerate_1 _) (F.newCall_enumerate_1 _) (fun obj => F.args_object_init_2 obj _) F.entry_enumerate_new (en_new (begins_tuple a its.toArray)) ⟨p2, ?_⟩
      have sz : (s1.heap.push { cls := .type "tuple_iterator", data := .fields #[.ref a, .int 0 0] }).objs.size = s1.heap.objs.size + 1 := Heap.size_push ..
      show _ ∧ _
      rw [sz]
      have he : IsEnum ((s1.heap.push { cls := .type "tuple_iterator", data := .fields #[.ref a, .int 0 0] }).push { cls := .type "enumerate", data := .fields #[.none, .bool false, .ref s1.heap.objs.size, rawInt 0, .none, .none] }) (s1.heap.objs.size + 1) s1.heap.objs.size (0 + ((0 : Nat) : Int)) .none := by
        have g := Heap.get?_push_size (s1.heap.push { cls := .type "tuple_iterator", data := .fields #[.ref a, .int 0 0] }) (o := { cls := .type "enumerate", data := .fields #[.none, .bool false, .ref s1.heap.objs.size, rawInt 0, .none, .none] }) rfl
        rw [sz] at g; exact g
      refine ⟨⟨_, he, rfl⟩, wpAny_pyIter_enum he ⟨s1.heap.objs.size + 1, [s1.heap.objs.size + 1, s1.heap.objs.size], _, _, H1, rfl, I1.kept (t' := s1.toks) (fun b o z => Heap.get?_push_of_some _ (Heap.get?_push_of_some _ z)), turn_enT a (s1.heap.objs.size + 1) s1.heap.objs.size (Nat.succ_ne_self _), ⟨⟨.none, he⟩, ⟨_, Heap.get?_push_of_some _ (Heap.get?_push_size _ rfl), rfl, rfl⟩⟩, fun b hb => ?_, q⟩⟩
      have hge : s1.heap.objs.size ≤ b := by
        rcases List.mem_cons.mp hb with z | z
        · rw [z]; exact Nat.le_add_right _ _
        · rw [List.mem_singleton.mp z]; exact Nat.le_refl _
      exact I1.fpOk hge (I1.hok.fresh hge)
theorem walk_enT {K : PySem.W.Frag} {a : Addr} {xs : List V} : Walk (ItT K a) xs.length (fun H => SqT K H a xs) (YPair (fun i => some (.int (i : Nat))) (fun i => xs[i]?)) := by
  refine ⟨fun i _ hi hs => ⟨xs, xs[i], hs, by simp [hi]⟩, fun _ hs => ⟨xs, hs, Nat.le_refl _⟩, fun i H v H2 _ hs y => ?_⟩
  obtain ⟨T, x, e1, e2, e3, e4⟩ := y
  exact ⟨T, .int (i : Nat), x, e1, e2, e3, rfl, e4 xs hs⟩
theorem ko_catA {X : Cx} {K : PySem.W.Frag} (h : X.K = K := by rfl) : OpR X (binaryOp .Add) (rCatA K) := h ▸ op_catA
theorem ki_enA {X : Cx} {K : PySem.W.Frag} {e : Expr} {ta : TA} {p pos tpos : Pos} {elts : List Expr} {kk : Nat} (hg : Gl X "enumerate") (hm : X.mg "enumerate" = none) (ha : PA X [e] ta) (hs : starEach [e] X.env = [(false, eval e X.env)] := by rfl) (h : X.K = K := by rfl)
    : PI X (.Tuple elts kk tpos) (.Call (.Name "enumerate" p) [e] [] pos) (iEnA K ta) := h ▸ pi_enA hg hm ha hs
end Pot

namespace Pot
open PySem PySem.Spec PyProof.Rows L2
open Sem (wp)
/-! ### zip of three lists of one length -/
def It3 (K : PySem.W.Frag) (a b c : Addr) : It :=
  ⟨fun i H => ∃ (xs ys zs : List V) (x y z : V), SqL K H a xs ∧ SqL K H b ys ∧ SqL K H c zs ∧ xs[i]? = some x ∧ ys[i]? = some y ∧ zs[i]? = some z,
   fun i H v H2 => ∃ T x y z, v = .ref T ∧ H T = none ∧ H2 = upd H T (.tup [x, y, z]) ∧ (∀ xs, SqL K H a xs → xs[i]? = some x) ∧ (∀ ys, SqL K H b ys → ys[i]? = some y) ∧ ∀ zs, SqL K H c zs → zs[i]? = some z,
   fun i H => ∃ xs ys zs : List V, SqL K H a xs ∧ SqL K H b ys ∧ SqL K H c zs ∧ xs.length ≤ i ∧ ys.length ≤ i ∧ zs.length ≤ i⟩
/-- an iterator of a list that has come to its end -/
theorem drawsEndL {prog : Program} {w : World} {A : Around} (hh : A.handled = none) (it t : Addr) (items : Array Value) (i : Nat) (hi : items[i]? = none) :
    Draws prog w A it [it, t] i (fun _ _ => False) (fun j h => j = i ∧ h.IsListIter it t j ∧ h.IsList t items) where
  live := fun _ _ st => let ⟨o, ho, _⟩ := st.2.1; ⟨o, ho⟩
  frame := fun _ _ _ st hk => ⟨st.1, st.2.1.at fun o e => hk it (by simp) o e, st.2.2.at fun o e => hk t (by simp) o e⟩
  item := fun j _ _ _ hj st _ => absurd st.1 (Nat.ne_of_lt hj)
  done := fun s Q E st hE => wpAny_nextOf_list_end hh st.2.1 st.2.2 hi hE
theorem turn_z3 {P : Program} {w : World} {K : PySem.W.Frag} {elts : List Expr} {kk : Nat} {tpos : Pos} {a b c z TI TO i1 i2 i3 : Addr} (D : ZipSep3 z TI TO i1 i2 i3 [i1, a] [i2, b] [i3, c]) (n1 : a ≠ i1) (n2 : b ≠ i2) (n3 : c ≠ i3) :
    Turn P w K (.Tuple elts kk tpos) (It3 K a b c) [z, TI, TO, i1, i2, i3] z (fun i h => IsZip h z TI TO .none ∧ IsTupOf3 h TI (.ref i1) (.ref i2) (.ref i3) ∧ (∃ x y u, IsTupOf3 h TO x y u) ∧ h.IsListIter i1 a i ∧ h.IsListIter i2 b i ∧ h.IsListIter i3 c i) where
  mem := by simp
  obj := fun i h st m hm => by
    obtain ⟨hz, hTI, ⟨x, y, u, hTO⟩, ⟨o1, e1, _, d1⟩, ⟨o2, e2, _, d2⟩, ⟨o3, e3, _, d3⟩⟩ := st
    simp only [List.mem_cons, List.not_mem_nil, or_false] at hm
    rcases hm with e | e | e | e | e | e
    · subst e; exact ⟨_, hz, fun v q => nomatch q⟩
    · subst e; exact ⟨_, hTI, fun v q => nomatch q⟩
    · subst e; exact ⟨_, hTO, fun v q => nomatch q⟩
    · subst e; exact ⟨o1, e1, fun v q => by rw [d1] at q; cases q⟩
    · subst e; exact ⟨o2, e2, fun v q => by rw [d2] at q; cases q⟩
    · subst e; exact ⟨o3, e3, fun v q => by rw [d3] at q; cases q⟩
  keep := fun i h h2 st k => by
    obtain ⟨hz, hTI, ⟨x, y, u, hTO⟩, g1, g2, g3⟩ := st
    exact ⟨k z (by simp) _ hz, k TI (by simp) _ hTI, ⟨x, y, u, k TO (by simp) _ hTO⟩, g1.at fun o q => k i1 (by simp) o q, g2.at fun o q => k i2 (by simp) o q, g3.at fun o q => k i3 (by simp) o q⟩
  item := by
    intro X q1 q2 q3 hc i pins s σ H E I hf st hg; subst q1 q2 q3
    obtain ⟨hz, hTI, ⟨x0, y0, u0, hTO⟩, g1, g2, g3⟩ := st
    obtain ⟨xs, ys, us, x, y, u, hqa, hqb, hqc, hx, hy, hu⟩ := hg
    obtain ⟨its1, vs1, p1, _⟩ := I.list hqa
    obtain ⟨its2, vs2, p2, _⟩ := I.list hqb
    obtain ⟨its3, vs3, p3, _⟩ := I.list hqc
    obtain ⟨w1, hw1, r1⟩ := vs1.get hx
    obtain ⟨w2, hw2, r2⟩ := vs2.get hy
    obtain ⟨w3, hw3, r3⟩ := vs3.get hu
    have at1 : its1.toArray[i]? = some w1 := by simpa using hw1
    have at2 : its2.toArray[i]? = some w2 := by simpa using hw2
    have at3 : its3.toArray[i]? = some w3 := by simpa using hw3
    have l1 : i < its1.toArray.size := (Array.getElem?_eq_some_iff.mp at1).1
    have l2 : i < its2.toArray.size := (Array.getElem?_eq_some_iff.mp at2).1
    have l3 : i < its3.toArray.size := (Array.getElem?_eq_some_iff.mp at3).1
    have hh := I.ok.hd hc
    have G := GoesN.zip3 (elts := elts) (x1 := kk) (pos := tpos) D (Draws.list (prog := X.prog) (w := X.w) (A := X.A.in1) hh i1 a n1 its1.toArray) (Draws.list (prog := X.prog) (w := X.w) (A := X.A.in1) hh i2 b n2 its2.toArray) (Draws.list (prog := X.prog) (w := X.w) (A := X.A.in1) hh i3 c n3 its3.toArray)
    refine G.goes i s _ _ (by omega) ⟨hz, hTI, ⟨x0, y0, u0, hTO⟩, ⟨g1, p1.isList⟩, ⟨g2, p2.isList⟩, ⟨g3, p3.isList⟩⟩ fun v h2 tk hY st2 hk _ => ?_
    obtain ⟨T, t1, t2, t3, rfl, hn, e1, e2, e3, hT⟩ := hY
    cases Option.some.inj (e1.symm.trans at1)
    cases Option.some.inj (e2.symm.trans at2)
    cases Option.some.inj (e3.symm.trans at3)
    have new : ObjOk X.prog X.w (upd H T (.tup [x, y, u])) h2 T (.tup [x, y, u]) := ⟨by show 3 ≤ sizeLine; decide, [w1, w2, w3], .cons r1 (.cons r2 (.cons r3 .nil)), hT⟩
    have I1 : Inv X pins σ (upd H T (.tup [x, y, u])) { s with heap := h2, toks := tk } := I.turnedNew (ch := [z, TI, TO, i1, i2, i3]) (fun m ob hm q => hk m ob (fun e => hm (by simp only [List.mem_cons, List.not_mem_nil, or_false] at e ⊢; rcases e with e | e | e | e | e <;> simp [e])) q) hf hn new
    refine ⟨.ref T, _, I1, rfl, ⟨T, x, y, u, rfl, I.hok.fresh hn, rfl, fun l hl => by rw [I.list_inj hl hqa]; exact hx, fun l hl => by rw [I.list_inj hl hqb]; exact hy, fun l hl => by rw [I.list_inj hl hqc]; exact hu⟩, ⟨st2.1, st2.2.1, st2.2.2.1, st2.2.2.2.1.1, st2.2.2.2.2.1.1, st2.2.2.2.2.2.1⟩, fun m hm => ?_⟩
    have hm0 := (hf m hm).1
    have live : ∃ o, s.heap.get? m = some o := by
      obtain ⟨o1, f1, _⟩ := g1
      obtain ⟨o2, f2, _⟩ := g2
      obtain ⟨o3, f3, _⟩ := g3
      simp only [List.mem_cons, List.not_mem_nil, or_false] at hm
      rcases hm with e | e | e | e | e | e
      · subst e; exact ⟨_, hz⟩
      · subst e; exact ⟨_, hTI⟩
      · subst e; exact ⟨_, hTO⟩
      · subst e; exact ⟨_, f1⟩
      · subst e; exact ⟨_, f2⟩
      · subst e; exact ⟨_, f3⟩
    obtain ⟨o, ho⟩ := live
    rw [upd_ne (Nat.ne_of_lt (Nat.lt_of_lt_of_le (Heap.lt_size ho) hn))]; exact hm0
  done := by
    intro X q1 q2 q3 hc i pins s σ H E I hf st hg; subst q1 q2 q3
    obtain ⟨hz, hTI, ⟨x0, y0, u0, hTO⟩, g1, g2, g3⟩ := st
    obtain ⟨xs, ys, us, hqa, hqb, hqc, hx, hy, hu⟩ := hg
    obtain ⟨its1, vs1, p1, _⟩ := I.list hqa
    obtain ⟨its2, vs2, p2, _⟩ := I.list hqb
    obtain ⟨its3, vs3, p3, _⟩ := I.list hqc
    have m1 := vs1.length
    have m2 := vs2.length
    have m3 := vs3.length
    have hh := I.ok.hd hc
    have G := GoesN.zip3 (elts := elts) (x1 := kk) (pos := tpos) D (drawsEndL (prog := X.prog) (w := X.w) (A := X.A.in1) hh i1 a its1.toArray i (by simp; omega)) (drawsEndL (prog := X.prog) (w := X.w) (A := X.A.in1) hh i2 b its2.toArray i (by simp; omega)) (drawsEndL (prog := X.prog) (w := X.w) (A := X.A.in1) hh i3 c its3.toArray i (by simp; omega))
    rw [Nat.min_self, Nat.min_self] at G
    exact G.stops s _ _ ⟨hz, hTI, ⟨x0, y0, u0, hTO⟩, ⟨rfl, g1, p1.isList⟩, ⟨rfl, g2, p2.isList⟩, ⟨rfl, g3, p3.isList⟩⟩ fun h2 tk hk _ => inv_ch (ch := [z, TI, TO, i1, i2, i3]) I (fun m o hm q => hk m o (fun e => hm (by simp only [List.mem_cons, List.not_mem_nil, or_false] at e ⊢; rcases e with e | e | e | e | e <;> simp [e])) q) hf
  self := fun _ _ _ _ _ st fin => wpAny_pyIter_zip st.1 fin
def iZip3 (K : PySem.W.Frag) (ta : TA) : TI := fun σ H R => ta σ H fun vs H1 => ∃ a b c xs ys zs, vs = [.ref a, .ref b, .ref c] ∧ SqL K H1 a xs ∧ SqL K H1 b ys ∧ SqL K H1 c zs ∧ R (It3 K a b c) H1
theorem pi_zip3 {X : Cx} {e e2 e3 : Expr} {ta : TA} {p pos tpos : Pos} {elts : List Expr} {kk : Nat} (hg : Gl X "zip") (hm : X.mg "zip" = none) (ha : PA X [e, e2, e3] ta)
    (hs : starEach [e, e2, e3] X.env = (false, eval e X.env) :: starEach [e2, e3] X.env := by rfl) (hpl : (backTo pos (starEach [e2, e3] X.env)).any (·.1) = false := by rfl) :
    PI X (.Tuple elts kk tpos) (.Call (.Name "zip" p) [e, e2, e3] [] pos) (iZip3 X.K ta) := by
  refine ⟨fun pins s σ H R I hi => ?_⟩
  refine Call_ (ld_blt I hg hm PyProof.Rows.boot_zip (PyProof.Rows.callWith_type1 (thn (ha.run pos pins s σ H _ I hi) fun us s1 ⟨vs, H1, I1, r1, q1⟩ => ?_) hs hpl))
  obtain ⟨a, b, c, xs, ys, zs, ex, qa, qb, qc, q⟩ := q1
  subst ex
  cases r1 with
  | cons ra rr =>
    cases rr with
    | cons rb rr =>
      cases rr with
      | cons rc rr =>
        cases rr; cases ra; cases rb; cases rc
        obtain ⟨its1, _, p1, _⟩ := I1.list qa
        obtain ⟨its2, _, p2, _⟩ := I1.list qb
        obtain ⟨its3, _, p3, _⟩ := I1.list qc
        refine zip_begins3 (begins_list a its1.toArray) (begins_list b its2.toArray) (begins_list c its3.toArray) p1.isList p2.isList p3.isList fun h2 hz hTI hTO f1 f2 f3 hsz hk => wpAny_pyIter_zip hz ?_
        have below : ∀ {l : Addr} {its : List Value} {n : Nat}, s1.heap.get? l = some { cls := .type "list", data := .seq its.toArray n } → ∀ m ∈ [l], m < s1.heap.objs.size := fun h m hm => by rw [List.mem_singleton.mp hm]; exact Heap.lt_size h
        refine ⟨s1.heap.objs.size + 5, [s1.heap.objs.size + 5, s1.heap.objs.size + 3, s1.heap.objs.size + 4, s1.heap.objs.size, s1.heap.objs.size + 1, s1.heap.objs.size + 2], _, _, H1, rfl, I1.kept (t' := s1.toks) hk, turn_z3 (zip_sep3 (N := s1.heap.objs.size) (fp1 := [a]) (fp2 := [b]) (fp3 := [c]) ?_ ?_ ?_) ?_ ?_ ?_, ⟨hz, hTI, ⟨_, _, _, hTO⟩, ⟨_, f1, rfl, rfl⟩, ⟨_, f2, rfl, rfl⟩, ⟨_, f3, rfl, rfl⟩⟩, fun m hm => ?_, q⟩
        · exact fun m hm => by rw [List.mem_singleton.mp hm]; exact p1.lt
        · exact fun m hm => by rw [List.mem_singleton.mp hm]; exact p2.lt
        · exact fun m hm => by rw [List.mem_singleton.mp hm]; exact p3.lt
        · exact Nat.ne_of_lt p1.lt
        · exact Nat.ne_of_lt (Nat.lt_of_lt_of_le p2.lt (Nat.le_add_right _ _))
        · exact Nat.ne_of_lt (Nat.lt_of_lt_of_le p3.lt (Nat.le_add_right _ _))
        · have hge : s1.heap.objs.size ≤ m := by
            simp only [List.mem_cons, List.not_mem_nil, or_false] at hm
            rcases hm with e | e | e | e | e | e <;> (rw [e]; first | exact Nat.le_refl _ | exact Nat.le_add_right _ _)
          exact I1.fpOk hge (I1.hok.fresh hge)
theorem ki_zip3 {X : Cx} {K : PySem.W.Frag} {e e2 e3 : Expr} {ta : TA} {p pos tpos : Pos} {elts : List Expr} {kk : Nat} (hg : Gl X "zip") (hm : X.mg "zip" = none) (ha : PA X [e, e2, e3] ta)
    (hs : starEach [e, e2, e3] X.env = (false, eval e X.env) :: starEach [e2, e3] X.env := by rfl) (hpl : (backTo pos (starEach [e2, e3] X.env)).any (·.1) = false := by rfl) (h : X.K = K := by rfl) :
    PI X (.Tuple elts kk tpos) (.Call (.Name "zip" p) [e, e2, e3] [] pos) (iZip3 K ta) := h ▸ pi_zip3 hg hm ha hs hpl
def Y3 (f g k : Nat → Option V) : Nat → Hp → V → Hp → Prop := fun i H v H2 => ∃ T x y z, v = .ref T ∧ H T = none ∧ H2 = upd H T (.tup [x, y, z]) ∧ f i = some x ∧ g i = some y ∧ k i = some z
theorem walk_z3 {K : PySem.W.Frag} {a b c : Addr} {xs ys zs : List V} (h1 : ys.length = xs.length) (h2 : zs.length = xs.length) : Walk (It3 K a b c) xs.length (fun H => SqL K H a xs ∧ SqL K H b ys ∧ SqL K H c zs) (Y3 (fun i => xs[i]?) (fun i => ys[i]?) (fun i => zs[i]?)) := by
  refine ⟨fun i _ hi hs => ⟨xs, ys, zs, xs[i], ys[i]'(by omega), zs[i]'(by omega), hs.1, hs.2.1, hs.2.2, by simp [hi], by simp [show i < ys.length by omega], by simp [show i < zs.length by omega]⟩, fun _ hs => ⟨xs, ys, zs, hs.1, hs.2.1, hs.2.2, by omega, by omega, by omega⟩, fun i H v H2 _ hs y => ?_⟩
  obtain ⟨T, x, y, z, e1, e2, e3, e4, e5, e6⟩ := y
  exact ⟨T, x, y, z, e1, e2, e3, e4 xs hs.1, e5 ys hs.2.1, e6 zs hs.2.2⟩
end Pot

namespace Pot
open PySem PySem.Spec PyProof.Rows L2
open PySem.Calls
open PySem.W (sortingHeap copyHeap sortLe alike alikeAll keyToks keyToksAll dataLt dataKind KatLex SortsAt sortVals dataType EachIs)
/-! ### sorted of rows that are told apart by parts that can be compared -/
/-- up to the first part in which they differ, that one too, two rows are alike -/
def okCmp : List PyData → List PyData → Bool
  | x :: xs, y :: ys => alike x y && (!PyData.eqv x y || okCmp xs ys)
  | [], [] => true
  | _, _ => false
section
variable {prog : Program} {w : World} {A : Around} {s : Shared}
theorem kat_ok {b fin : Bool} {Q : Bool → Shared → Prop} : ∀ (xs ys : List PyData) (i : Nat) (vs ws : List Value) (as bs : List Addr), ReadsAll s.heap vs xs as → ReadsAll s.heap ws ys bs → okCmp xs ys = true → A.units + min (PyData.depthAll xs) (PyData.depthAll ys) < cLine → (b = true → i = 0 → ∀ x r t, xs = x :: r → x ≠ .tuple t) → fin = decide (xs.length < ys.length) →
    Q (PyProof.Rows.lexLt itemOrd (keyToksAll xs) (keyToksAll ys)) s → KatLex prog w A b fin Q (vs.zip ws) i s := by
  intro xs
  induction xs with
  | nil =>
    intro ys i vs ws as bs ra rb ok hu hb hf hq
    have := PySem.W.katLex_alike (prog := prog) (w := w) (A := A) (s := s) (b := b) (fin := fin) (Q := Q) [] ys i vs ws as bs ra rb
    cases ys with
    | nil => exact this rfl hu hb hf hq
    | cons y ys => cases ok
  | cons x xs ih =>
    intro ys i vs ws as bs ra rb ok hu hb hf hq
    cases ys with
    | nil => cases ok
    | cons y ys =>
      obtain ⟨al, nx⟩ := Bool.and_eq_true_iff.mp ok
      have hf2 : fin = decide (xs.length < ys.length) := by rw [hf]; simp only [List.length_cons, Nat.add_lt_add_iff_right]
      cases ra with
      | cons r rs =>
        cases rb with
        | cons r2 rs2 =>
          rw [List.zip_cons_cons]
          refine PySem.W.kat_cons (PySem.W.eqAt_alike x y A s _ _ _ _ r r2 al (SeqAt.room_head hu) prog w _ _ ?_)
          cases ex : PyData.eqv x y with
          | true =>
            rw [PySem.W.dataLt_all_yes al ex] at hq
            rw [ex] at nx
            exact PySem.W.kat_yes (ih ys (i + 1) _ _ _ _ rs rs2 nx (SeqAt.room_tail hu) (fun _ h0 => absurd h0 (Nat.succ_ne_zero i)) hf2 hq)
          | false =>
            rw [PySem.W.dataLt_all_no al ex] at hq
            refine PySem.W.kat_no (PySem.W.oneLt_alike (fun hbi t => ?_) r r2 al (PySem.W.ne_none_of al ex) (SeqAt.room_head hu) hq)
            obtain ⟨b1, b2⟩ := Bool.and_eq_true_iff.mp hbi
            exact hb b1 (by simpa using b2) x xs t rfl
theorem key_of {h : Heap} {ds : List PyData} {v : Value} {d : PyData} {as : List Addr} (hd : d ∈ ds) (r : Reads h v d as) : (dataKind h ds).keyOf v = some (keyToks d) := by
  have ex : ∃ e, e ∈ ds ∧ ∃ bs, Reads h v e bs := ⟨d, hd, as, r⟩
  have eq1 : (dataKind h ds).keyOf v = some (keyToks ex.choose) := dif_pos ex
  obtain ⟨_, bs, r2⟩ := ex.choose_spec
  rw [eq1, (Reads.unique r2 _ _ r).1]
/-- rows that can be sorted: tuples with a first part, the first parts alike, each two comparable -/
structure RowsCmp (ds : List PyData) : Prop where
  form : ∀ d ∈ ds, ∃ x r, d = .tuple (x :: r)
  first : ∀ x r x2 r2, PyData.tuple (x :: r) ∈ ds → PyData.tuple (x2 :: r2) ∈ ds → alike x x2 = true
  cmp : ∀ xs ys, PyData.tuple xs ∈ ds → PyData.tuple ys ∈ ds → okCmp xs ys = true
theorem sorts_rows {vs : List Value} {ds : List PyData} (e : EachIs (fun v d => ∃ as, Reads s.heap v d as) vs ds) (W : RowsCmp ds) (hu : ∀ d, d ∈ ds → A.units + d.depth < cLine) : SortsAt prog w A s (dataKind s.heap ds) vs := by
  refine ⟨fun v hv => ?_, ?_⟩
  · obtain ⟨d, hd, as, r⟩ := e.left v hv
    exact ⟨_, key_of hd r⟩
  · cases hds : ds with
    | nil =>
      rw [hds] at e
      cases e
      exact ⟨general', fun E x y a b Q ha _ _ => (by obtain ⟨d, _, hd, _⟩ := PySem.W.dataKind_inv ha; exact absurd hd (by simp)), fun h2 => absurd h2 (by simp)⟩
    | cons d0 ds0 =>
      rw [← hds]
      have m0 : d0 ∈ ds := by rw [hds]; exact List.mem_cons_self
      obtain ⟨x0, r0, e0⟩ := W.form d0 m0
      have m0 : PyData.tuple (x0 :: r0) ∈ ds := by rw [← e0]; exact m0
      refine ⟨tuples' (dataType x0 != Value.type "tuple"), ?_, fun h2 E Q hq => ?_⟩
      · intro E x y a b Q ha hb hq
        obtain ⟨d, as, hd, ra, rfl⟩ := PySem.W.dataKind_inv ha
        obtain ⟨d2, as2, hd2, rb, rfl⟩ := PySem.W.dataKind_inv hb
        obtain ⟨x1, r1, rfl⟩ := W.form d hd
        obtain ⟨x2, r2, rfl⟩ := W.form d2 hd2
        have room : A.units + min (PyData.tuple (x1 :: r1)).depth (PyData.tuple (x2 :: r2)).depth < cLine := Nat.lt_of_le_of_lt (Nat.add_le_add_left (Nat.min_le_left _ _) _) (hu _ hd)
        have hq2 : Q (dataLt (.tuple (x1 :: r1)) (.tuple (x2 :: r2))) s := hq
        rw [PySem.W.dataLt_tuple] at hq2
        cases ra with
        | @tuple l o us n _ _ h1 h2 h3 h4 =>
          cases rb with
          | @tuple l2 o2 us2 n2 _ _ k1 k2 k3 k4 =>
            have z1 : us.size = (x1 :: r1).length := by simpa using SeqAt.ReadsAll.length _ _ _ h4
            have z2 : us2.size = (x2 :: r2).length := by simpa using SeqAt.ReadsAll.length _ _ _ k4
            refine PySem.W.kat_lt h1 h3 k1 k3 (kat_ok (prog := prog) (w := w) (A := A) (s := s) (x1 :: r1) (x2 :: r2) 0 _ _ _ _ h4 k4 (W.cmp _ _ hd hd2) (by have := SeqAt.room_in room; omega) (fun hb1 _ xx rr t ex => ?_) (by rw [z1, z2]) hq2)
            obtain ⟨rfl, rfl⟩ := List.cons.inj ex
            rw [← PySem.W.dataType_alike (W.first _ _ _ _ hd m0)] at hb1
            exact PySem.W.dataType_tuple hb1 t
      · obtain ⟨fs, t1, t2, t3⟩ := PySem.W.each_katTups e W.form
        refine PySem.W.kat_kind (T := dataType x0) t1 (by omega) (fun f hf => ?_) (beq_self_eq_true _) hq
        obtain ⟨xx, rr, as, m1, m2⟩ := t3 f hf
        rw [← PySem.W.dataType_alike (W.first _ _ _ _ m1 m0)]
        exact PySem.W.looks_reads m2
end
theorem perm_lift {α β : Type} (f : α → β) {out l : List β} (h : out.Perm l) : ∀ L : List α, L.map f = l → ∃ L2 : List α, L2.Perm L ∧ L2.map f = out := by
  induction h with
  | nil => intro L e; exact ⟨L, .refl _, e⟩
  | cons x _ ih =>
    intro L e
    cases L with
    | nil => cases e
    | cons y L =>
      obtain ⟨e1, e2⟩ := List.cons.inj e
      obtain ⟨L2, p2, m2⟩ := ih L e2
      exact ⟨y :: L2, p2.cons y, by rw [List.map_cons, m2, e1]⟩
  | swap x y l =>
    intro L e
    match L, e with
    | a :: b :: L, e =>
      obtain ⟨e1, e2⟩ := List.cons.inj e
      obtain ⟨e2, e3⟩ := List.cons.inj e2
      exact ⟨b :: a :: L, .swap a b L, by rw [List.map_cons, List.map_cons, e1, e2, e3]⟩
  | trans _ _ ih1 ih2 =>
    intro L e
    obtain ⟨L2, p2, m2⟩ := ih2 L e
    obtain ⟨L3, p3, m3⟩ := ih1 L2 m2
    exact ⟨L3, p3.trans p2, m3⟩
section
variable {X : Cx} {K : PySem.W.Frag}
theorem each_reads {pins : List (Addr × Obj)} {σ : L2.St} {H : Hp} {s : Shared} (I : Inv X pins σ H s) : ∀ {xs : List V} {its : List Value} {ds : List PyData}, Vals xs its → DpAll X.K H xs ds → ∃ L : List (Value × V × PyData), L.map (·.1) = its ∧ L.map (·.2.1) = xs ∧ L.map (·.2.2) = ds ∧ ∀ t ∈ L, RelV t.2.1 t.1 ∧ Dp X.K H t.2.1 t.2.2
  | _, _, _, .nil, .nil => ⟨[], rfl, rfl, rfl, fun _ h => (List.not_mem_nil h).elim⟩
  | _, _, _, .cons (a := x) (b := u) r rs, .cons (d := d) p ps => by
    obtain ⟨L, h1, h2, h3, h4⟩ := each_reads I rs ps
    refine ⟨(u, x, d) :: L, by rw [List.map_cons, h1], by rw [List.map_cons, h2], by rw [List.map_cons, h3], fun t ht => ?_⟩
    rcases List.mem_cons.mp ht with e | e
    · rw [e]; exact ⟨r, p⟩
    · exact h4 t e
/-- sorted of a list of rows: a new list of the same ones -/
def rSortedR (K : PySem.W.Frag) : List V → Hp → VK → Prop := fun vs H Q => ∃ (a : Addr) (xs : List V) (ds : List PyData), vs = [V.ref a] ∧ SqL K H a xs ∧ DpAll K H xs ds ∧ RowsCmp ds ∧ (∀ d ∈ ds, d.depth ≤ 60) ∧
  ∀ (zs : List V) (es : List PyData) (p : Addr), DpAll K H zs es → es.Perm ds → H p = none → Q (.ref p) (upd H p (.lst zs))
theorem cr_sortedR (hu : X.A.units + 70 < cLine) : CallR X (.builtin "sorted") (rSortedR X.K) := by
  intro pins s σ H vs0 us0 Q I r h
  obtain ⟨a, xs, ds, rfl, hs, da, W, dep, q⟩ := h
  obtain ⟨its, rv, hl, hz⟩ := I.list hs
  rw [Vals.ref1 r]
  obtain ⟨L, e1, e2, e3, all⟩ := each_reads I rv da
  have er : EachIs (fun v d => ∃ as, Reads s.heap v d as) its ds := by
    rw [← e1, ← e3]
    clear e1 e2 e3
    induction L with
    | nil => exact .nil
    | cons t L ih =>
      have ht := all t List.mem_cons_self
      exact .cons (Dp.reads I _ _ _ ht.2 ht.1) (ih fun x hx => all x (List.mem_cons_of_mem _ hx))
  have ll : its.length = xs.length := by rw [← e1, ← e2, List.length_map, List.length_map]
  have ln : its.length ≤ sizeLine := by rw [ll]; exact hz
  have er' : EachIs (fun v d => ∃ as, Reads (sortingHeap (copyHeap s.heap its) (s.heap.objs.size + 1) its) v d as) its ds := er.mono fun _ _ ⟨as, r⟩ => ⟨as, PyProof.Rows.Reads.keeps (fun _ _ => PySem.W.sorting_copy_old) r⟩
  have S := sorts_rows (prog := X.prog) (w := X.w) (A := X.A.in1.in1) (s := { s with heap := sortingHeap (copyHeap s.heap its) (s.heap.objs.size + 1) its }) er' W (fun d hd => by have := dep d hd; simp only [Around.in1]; omega)
  refine PySem.W.sorted_vals hl.isList S ln ?_
  generalize eo : sortVals _ false its its = out
  have po : out.Perm its := by
    rw [← eo]
    unfold sortVals
    have := (List.mergeSort_perm (its.zip its) (sortLe (dataKind (sortingHeap (copyHeap s.heap its) (s.heap.objs.size + 1) its) ds).toKeyOrd false fun p : Keyed => PySem.W.keyD (dataKind (sortingHeap (copyHeap s.heap its) (s.heap.objs.size + 1) its) ds) p.1)).map Prod.snd
    rw [List.map_snd_zip (Nat.le_refl _)] at this
    exact this
  obtain ⟨L2, p2, m2⟩ := perm_lift (·.1) po L e1
  have rv2 : Vals (L2.map (·.2.1)) out := by
    rw [← m2]
    clear m2
    have hh : ∀ t ∈ L2, RelV t.2.1 t.1 := fun t ht => (all t (p2.mem_iff.mp ht)).1
    clear p2
    induction L2 with
    | nil => exact .nil
    | cons t L2 ih => exact .cons (hh t List.mem_cons_self) (ih fun x hx => hh x (List.mem_cons_of_mem _ hx))
  have dp2 : DpAll X.K H (L2.map (·.2.1)) (L2.map (·.2.2)) := by
    have hh : ∀ t ∈ L2, Dp X.K H t.2.1 t.2.2 := fun t ht => (all t (p2.mem_iff.mp ht)).2
    clear p2 m2 rv2
    induction L2 with
    | nil => exact .nil
    | cons t L2 ih => exact .cons (hh t List.mem_cons_self) (ih fun x hx => hh x (List.mem_cons_of_mem _ hx))
  have pd : (L2.map (·.2.2)).Perm ds := by rw [← e3]; exact p2.map _
  obtain ⟨ep, hat⟩ := PyProof.Rows.sortedAll_at s.heap its out.toArray
  have fr : H (s.heap.objs.size + 1) = none := I.hok.fresh (Nat.le_succ _)
  exact ⟨.ref _, upd H (s.heap.objs.size + 1) (.lst (L2.map (·.2.1))), I.laid (t' := s.toks) (fun _ _ => PyProof.Rows.sortedAll_old) (Nat.le_succ _) ⟨by rw [List.length_map, p2.length_eq, ← List.length_map (f := fun x : Value × V × PyData => x.1), e1]; exact ln, out, ep, rv2, hat⟩, rfl, q _ _ _ dp2 pd fr⟩
theorem kc_sortedR (hu : X.A.units + 70 < cLine) (h : X.K = K := by rfl) : CallR X (.builtin "sorted") (rSortedR K) := h ▸ cr_sortedR hu
end
end Pot

namespace Pot
open PySem PySem.Spec PyProof.Rows L2
open PySem.W (sortingHeap copyHeap sortLe alike alikeAll dataLt dataLe EachIs AllAlike Sortable)
section
variable {X : Cx} {K : PySem.W.Frag}
/-! ### two data of one form told apart by their order -/
theorem op_ltD (hu : X.A.units + 70 < cLine) : OpR X (compareOp .Lt) (fun x y H Q => ∃ da db, Dp X.K H x da ∧ Dp X.K H y db ∧ alike da db = true ∧ da ≠ .none ∧ da.depth ≤ 60 ∧ Q (.bl (dataLt da db)) H) := by
  intro pins s σ H x y v u Q I rx ry h
  obtain ⟨da, db, d1, d2, al, nn, dep, q⟩ := h
  obtain ⟨as, r1⟩ := Dp.reads I _ _ _ d1 rx
  obtain ⟨bs, r2⟩ := Dp.reads I _ _ _ d2 ry
  exact PySem.W.lt_data r1 r2 al nn (Nat.lt_of_le_of_lt (Nat.add_le_add_left (Nat.min_le_left _ _) _) (by omega)) ⟨.bl _, H, I, rfl, q⟩
theorem ko_ltD (hu : X.A.units + 70 < cLine) (h : X.K = K := by rfl) : OpR X (compareOp .Lt) (fun x y H Q => ∃ da db, Dp K H x da ∧ Dp K H y db ∧ alike da db = true ∧ da ≠ .none ∧ da.depth ≤ 60 ∧ Q (.bl (dataLt da db)) H) := h ▸ op_ltD hu
/-! ### sorted of rows, told by what they stand for -/
def rSortedE {β : Type} (K : PySem.W.Frag) (enc : β → PyData) : List V → Hp → VK → Prop := fun vs H Q => ∃ (a : Addr) (xs : List V) (bs : List β), vs = [V.ref a] ∧ SqL K H a xs ∧ DpAll K H xs (bs.map enc) ∧
  ∀ (zs : List V) (p : Addr), DpAll K H zs ((bs.mergeSort (dataLe false enc)).map enc) → H p = none → Q (.ref p) (upd H p (.lst zs))
theorem each_dp {β : Type} {enc : β → PyData} {pins : List (Addr × Obj)} {σ : L2.St} {H : Hp} {s : Shared} (I : Inv X pins σ H s) : ∀ {bs : List β} {xs : List V} {its : List Value}, Vals xs its → DpAll X.K H xs (bs.map enc) →
    EachIs (fun v b => ∃ x, RelV x v ∧ Dp X.K H x (enc b)) its bs ∧ EachIs (fun v b => ∃ as, Reads s.heap v (enc b) as) its bs
  | [], _, _, r, d => by
    cases d
    cases r
    exact ⟨.nil, .nil⟩
  | b :: bs, _, _, r, d => by
    cases d with
    | cons p ps =>
      cases r with
      | cons q qs =>
        obtain ⟨e1, e2⟩ := each_dp I qs ps
        exact ⟨.cons ⟨_, q, p⟩ e1, .cons (Dp.reads I _ _ _ p q) e2⟩
theorem dp_each {β : Type} {enc : β → PyData} {H : Hp} : ∀ {bs : List β} {its : List Value}, EachIs (fun v b => ∃ x, RelV x v ∧ Dp K H x (enc b)) its bs → ∃ xs, Vals xs its ∧ DpAll K H xs (bs.map enc)
  | _, _, .nil => ⟨[], .nil, .nil⟩
  | _, _, .cons ⟨x, r, d⟩ e => by
    obtain ⟨xs, rs, ds⟩ := dp_each e
    exact ⟨x :: xs, .cons r rs, .cons d ds⟩
theorem cr_sortedE {β : Type} {enc : β → PyData} (hu : X.A.units + 70 < cLine) (al : ∀ b b', alike (enc b) (enc b') = true) (tp : ∀ b, ∃ x r, enc b = .tuple (x :: r)) (dep : ∀ b, (enc b).depth ≤ 60) : CallR X (.builtin "sorted") (rSortedE X.K enc) := by
  intro pins s σ H vs0 us0 Q I r h
  obtain ⟨a, xs, bs, rfl, hs, da, q⟩ := h
  obtain ⟨its, rv, hl, hz⟩ := I.list hs
  rw [Vals.ref1 r]
  obtain ⟨e, er⟩ := each_dp I rv da
  have ln : bs.length ≤ sizeLine := by rw [← e.length, ← rv.length]; exact hz
  refine PySem.W.sorted_data hl.isList e er (AllAlike.of al) (Sortable.tuples tp) ln (fun b _ => by have := dep b; omega) fun out lo eo => ?_
  obtain ⟨zs, rz, dz⟩ := dp_each eo
  obtain ⟨ep, hat⟩ := PyProof.Rows.sortedAll_at s.heap its out.toArray
  exact ⟨.ref _, upd H (s.heap.objs.size + 1) (.lst zs), I.laid (t' := s.toks) (fun _ _ => PyProof.Rows.sortedAll_old) (Nat.le_succ _) ⟨by rw [rz.length, lo]; exact ln, out, ep, rz, hat⟩, rfl, q _ _ dz (I.hok.fresh (Nat.le_succ _))⟩
theorem kc_sortedE {β : Type} {enc : β → PyData} (hu : X.A.units + 70 < cLine) (al : ∀ b b', alike (enc b) (enc b') = true) (tp : ∀ b, ∃ x r, enc b = .tuple (x :: r)) (dep : ∀ b, (enc b).depth ≤ 60) (h : X.K = K := by rfl) : CallR X (.builtin "sorted") (rSortedE K enc) := h ▸ cr_sortedE hu al tp dep
/-! ### a[i] op= e of a list -/
def rGetL (K : PySem.W.Frag) : V → V → Hp → VK → Prop := fun x y H Q => ∃ (a : Addr) (xs : List V) (i : Nat) (v : V), x = .ref a ∧ y = .int (i : Int) ∧ SqL K H a xs ∧ xs[i]? = some v ∧ Q v H
theorem get_list : PGet X (rGetL X.K) := by
  intro pins s σ H x y ov iv Q I rx ry h
  obtain ⟨a, xs, i, v, rfl, rfl, hs, g, q⟩ := h
  cases rx
  obtain ⟨t, rfl⟩ := ry
  obtain ⟨its, r, pl, hz⟩ := I.list hs
  obtain ⟨u, eu, ru⟩ := r.get g
  have hi := (List.getElem?_eq_some_iff.mp g).1
  have := line63
  exact wpAny_getItem_list pl.isList (by omega) (by omega) (by simpa using eu) ⟨v, H, I, ru, q⟩
theorem kget_list (h : X.K = K := by rfl) : PGet X (rGetL K) := h ▸ get_list
end
end Pot

namespace Pot
open PySem PySem.Spec PyProof.Rows L2
/-! ### the least and the greatest of a list of numbers -/
section
variable {X : Cx} {K : PySem.W.Frag}
theorem kc_min (hc : X.calm = true := by rfl) (h : X.K = K := by rfl) : CallR X (.builtin "min") (rMin K) := h ▸ cr_min hc
theorem kc_max (hc : X.calm = true := by rfl) (h : X.K = K := by rfl) : CallR X (.builtin "max") (rMax K) := h ▸ cr_max hc
end
end Pot

namespace Pot
open PySem PySem.Spec PyProof.Rows L2
theorem up_by {sc scope : Scope} (h : (scope.names.all fun y => !decide (y.2 = .free) || (decide (sc.names.lookup y.1 = some .cell) || decide (sc.names.lookup y.1 = some .free))) = true) : ∀ y ∈ scope.names, y.2 = .free → sc.names.lookup y.1 = some .cell ∨ sc.names.lookup y.1 = some .free := fun y hy e => by
  have z := List.all_eq_true.mp h y hy
  simp only [Bool.or_eq_true, Bool.not_eq_true', decide_eq_true_eq, decide_eq_false_iff_not] at z
  exact z.resolve_left fun n => n e
/-! ### a def whose code object is known -/
theorem okC {P : Program} {w : World} {K : PySem.W.Frag} {mg : Str → Option Value} {base : Heap} {x qual : Str} {st : Stmt} {f c : Addr} {fd : FuncData} {N ps : List Str} {k : Nat} {sp : Sp} (F : Fun K x qual st f fd) (hc : fd.code = .ref c)
    (S : FnScope N ps (defScope st)) (many : ∀ vs H Q E, sp vs H Q E → vs.length = ps.length)
    (body : ∀ (A : Around) (outer : List Env) (s : Shared) (H : Hp) (vs : List V) (Q : VK) (E : XK), Room k (A.deeper (envOfC qual (defScope st) s.heap.objs.size f (.ref c))) → sp vs H Q E →
      ∃ t, PSs (cxOf CX0 P w K mg base N qual (defScope st) f (.ref c) A outer s H E).nox (defBody st) t ∧ t { nx := fun _ H' => Q .non H', rt := Q } (start N vs) H) : FnOk P w K mg base CX0 (k + 1) f fd ps sp := by
  obtain ⟨oc, od, kV, doc, pm, an, cdv, ct, osl, rfl, at_, code⟩ := F.ex
  have e : cdv = .ref c := hc
  subst e
  refine fn_of at_ code S many fun A outer s H vs Q E room want => ?_
  obtain ⟨t, ht, hq⟩ := body A outer s H vs Q E room want
  exact ⟨t, ht.nox, hq⟩
/-! ### the law's own call, where tables of code objects grow -/
theorem law_callGT {P : Program} {w : World} {K : PySem.W.Frag} {mg mb : Str → Option Value} {k : Nat} {fa a : Addr} {cs : List (Addr × Addr)} {fd : FuncData} {x : Str} {sp : Sp} {s : Shared} {vs : List Value} {ns : List Int}
    (kin : K.In s.heap) (glob : s.heap.Ns mainGlobals mg) (blt : s.heap.Ns builtinsNs mb) (boot : ∀ y : Str, y ≠ "__name__" → mb y = bootBuiltins y) (lim : s.heap.NoLimit) (gens : s.gens = #[])
    (tabs : ∀ p ∈ cs, s.heap.get? p.2 = some (PySem.W.tabObj #[])) (out : ∀ p ∈ cs, K.lookup p.2 = none) (code : ∀ p ∈ cs, PySem.W.CodeHd s.heap p.1 p.2)
    (bmain : ∃ (bm : Addr) (ob : Obj), mg "__builtins__" = some (.ref bm) ∧ bm ≠ builtinsNs ∧ s.heap.get? bm = some ob ∧ ob.cls = .type "module" ∧ ob.dict = some builtinsNs ∧ ob.data = .plain)
    (obj : s.heap.get? a = some { cls := .type "list", data := .seq vs.toArray }) (whole : IntsAre vs ns) (small : ns.length ≤ sizeLine) (room : Room k callerA)
    (F : ∀ base : Heap, K.In base → base.Ns mainGlobals mg → (∀ p ∈ cs, LamX.TabB base mg p.1 p.2) → FnG P w K mg base k fa fd [x] sp) (bind : ∀ (s : Shared) (u : Value), BindsTo s fd ⟨[u], []⟩ [(x, u)])
    (want : ∀ H : Hp, (∀ p ∈ cs, H p.2 = some (.tbl #[])) → SqL K H a (ns.map V.int) → sp [.ref a] H (fun v _ => v = .bl true) E0) :
    codeAny (model P w) callerA (.call (.ref fa) ⟨[.ref a], []⟩) (fun r s' => r = .ok (.ret (.bool true)) ∧ OldK s.heap s'.heap ∧ s'.os = s.os ∧ AllBare s'.gens) s := by
  have rv := vals_ints whole
  have nv := whole.length
  obtain ⟨isT, eT⟩ : ∃ isT : Addr → Prop, isT = fun b => ∃ p ∈ cs, p.2 = b := ⟨_, rfl⟩
  have inT : ∀ p ∈ cs, isT p.2 := fun p hp => by rw [eT]; exact ⟨p, hp, rfl⟩
  have atT : ∀ {b}, isT b → s.heap.get? b = some (PySem.W.tabObj #[]) := fun {b} h => by
    rw [eT] at h
    obtain ⟨p, hp, rfl⟩ := h
    exact tabs p hp
  have outT : ∀ {b}, isT b → K.lookup b = none := fun {b} h => by
    rw [eT] at h
    obtain ⟨p, hp, rfl⟩ := h
    exact out p hp
  have ofT : ∀ {b}, isT b → ∃ p ∈ cs, p.2 = b := fun {b} h => by rw [eT] at h; exact h
  have aT : ¬ isT a := fun h => by
    have z := (atT h).symm.trans obj
    have z2 : Data.fields #[] = Data.seq vs.toArray _ := congrArg Obj.data (Option.some.inj z)
    cases z2
  clear eT
  -- the tables, and the script where it isn't one of the written part
  obtain ⟨H, H1, H2, H3, H4⟩ : ∃ H : Hp, (∀ b, isT b → H b = some (.tbl #[])) ∧ SqL K H a (ns.map V.int) ∧ HOk P w H s.heap ∧ (∀ b u, H b = some u → (isT b ∧ u = .tbl #[]) ∨ (b = a ∧ K.lookup a = none ∧ ∃ ob xs, u = .frz ob (.lst xs))) := by
    have cl := fun b => Classical.propDecidable (isT b)
    cases lk : K.lookup a with
    | some o =>
      have same := kin a o lk
      rw [obj] at same
      cases same
      have hit : ∀ b u, (if isT b then some (HO.tbl #[]) else none) = some u → isT b ∧ u = .tbl #[] := fun b u z => by
        split at z
        · cases z; exact ⟨‹_›, rfl⟩
        · cases z
      refine ⟨fun b => if isT b then some (.tbl #[]) else none, fun b h => if_pos h, .inr ⟨_, vs.toArray, _, lk, rfl, rfl, rfl, by rw [List.size_toArray, nv]; exact small, by simpa using rv⟩, fun b u z => ?_, fun b u z => .inl (hit b u z)⟩
      obtain ⟨h, rfl⟩ := hit b u z
      exact atT h
    | none =>
      have hit : ∀ b u, (if isT b then some (HO.tbl #[]) else if b = a then some (HO.frz { cls := .type "list", data := .seq vs.toArray } (.lst (ns.map V.int))) else none) = some u → (isT b ∧ u = .tbl #[]) ∨ (b = a ∧ u = .frz { cls := .type "list", data := .seq vs.toArray } (.lst (ns.map V.int))) := fun b u z => by
        split at z
        · cases z; exact .inl ⟨‹_›, rfl⟩
        · split at z
          · cases z; exact .inr ⟨‹_›, rfl⟩
          · cases z
      refine ⟨fun b => if isT b then some (.tbl #[]) else if b = a then some (.frz { cls := .type "list", data := .seq vs.toArray } (.lst (ns.map V.int))) else none, fun b h => if_pos h, .inl (.inr ⟨{ cls := .type "list", data := .seq vs.toArray }, (if_neg aT).trans (if_pos rfl)⟩), fun b u z => ?_, fun b u z => (hit b u z).imp id fun h => ⟨h.1, rfl, _, _, h.2⟩⟩
      rcases hit b u z with ⟨h, rfl⟩ | ⟨rfl, rfl⟩
      · exact atT h
      · exact ⟨obj, by rw [List.length_map]; exact small, vs, _, rv, obj⟩
  have hid : ∀ {b : Addr} {o : Obj}, s.heap.get? b = some o → H b = none → (hidT s.heap H).get? b = some o := fun e n => hidT_get e n
  have no : ∀ {b : Addr} {o : Obj}, s.heap.get? b = some o → (∀ us n, o.data ≠ .seq us n) → o.data ≠ .fields #[] → H b = none := fun {b o} e n1 n2 => by
    cases q : H b with
    | none => rfl
    | some u =>
      rcases H4 b u q with ⟨h, _⟩ | ⟨rfl, _⟩
      · rw [atT h] at e
        cases e
        exact absurd rfl n2
      · rw [obj] at e
        cases e
        exact absurd rfl (n1 _ _)
  have kinB : K.In (hidT s.heap H) := fun b o e => hid (kin b o e) (by
    cases q : H b with
    | none => rfl
    | some u =>
      rcases H4 b u q with ⟨h, _⟩ | ⟨rfl, h, _⟩
      · rw [outT h] at e; cases e
      · rw [h] at e; cases e)
  have ns_ : ∀ {b : Addr} {m : Str → Option Value}, s.heap.Ns b m → (hidT s.heap H).Ns b m := fun {b m} h => by
    obtain ⟨o, es, ep, e, d, r⟩ := h
    exact ⟨o, es, ep, hid e (no e (fun us n z => by rw [d] at z; cases z) fun z => by rw [d] at z; cases z), d, r⟩
  have md : Mod K mg (hidT s.heap H) := ⟨kinB, ns_ glob, ⟨mb, ns_ blt, boot⟩, by obtain ⟨mc, h1, h2⟩ := lim; exact ⟨mc, ns_ h1, h2⟩⟩
  have globNe : ∀ {b : Addr} {o : Obj}, s.heap.get? b = some o → (∀ es ep, o.data ≠ .dict es ep) → b ≠ mainGlobals := fun {b o} e n z => by
    obtain ⟨o2, es, ep, e2, d, _⟩ := glob
    rw [z, e2] at e
    cases e
    exact n _ _ d
  have tb : ∀ p ∈ cs, LamX.TabB (hidT s.heap H) mg p.1 p.2 := fun p hp => by
    have hTp := tabs p hp
    refine ⟨?_, ?_, fun z => globNe hTp (fun es ep q => by cases q) z.symm⟩
    · obtain ⟨o, us, file, tf, flags, tg, inF, text, tt, e1, r1, r2, r3, r⟩ := code p hp
      exact ⟨o, us, file, tf, flags, tg, inF, text, tt, hid e1 (no e1 (fun us n z => by rw [r2] at z; cases z) fun z => by rw [r2] at z; cases z; simp at r3), r1, r2, r3, r⟩
    · obtain ⟨bm, ob, b1, b2, b3, b4, b5, b6⟩ := bmain
      refine ⟨bm, ob, b1, b2, globNe b3 (fun es ep q => by rw [b6] at q; cases q), fun q => ?_, hid b3 (no b3 (fun us n z => by rw [b6] at z; cases z) fun z => by rw [b6] at z; cases z), b4, b5, b6⟩
      rw [q, hTp] at b3
      cases b3
      cases b6
  have e0 : Env0 P w K mg (hidT s.heap H) callerA [] s H := ⟨rfl, md, fun b o e => of_hidT e, Nat.le_of_eq (hidT_size _ _), trivial, (fun b hb => nomatch (show b ∈ ([] : List Addr) from hb)), H3, .of_eq gens⟩
  refine codeAny_mono ((F _ kinB (ns_ glob) tb).does callerA [] s H ⟨[.ref a], []⟩ [.ref a] [.ref a] _ rfl room e0 (bind s (.ref a)) (.cons rfl .nil) (want H (fun p hp => H1 _ (inT p hp)) H2)) fun res s' h => ?_
  rcases res with _ | fl
  case error => exact (show False from h).elim
  cases fl <;> first | exact (show False from h).elim | skip
  obtain ⟨v, H', os, bare, un, fine', rel, q⟩ := h
  cases (show v = .bl true from q)
  cases (show _ = Value.bool true from rel)
  have key : ∀ b o, ¬ isT b → s.heap.get? b = some o → s'.heap.get? b = some o := fun b o nb e => by
    cases q : H b with
    | none => exact un.keep b o e q (fun z => nomatch (show b ∈ ([] : List Addr) from z)) (fun z => nomatch z)
    | some u =>
      rcases H4 b u q with ⟨h, _⟩ | ⟨rfl, _, ob, xs, rfl⟩
      · exact absurd h nb
      · have e1 := (H3 _ _ q).1
        have e2 := (fine' _ _ (un.frzs _ ob _ q)).1
        rw [e] at e1; cases e1
        exact e2
  have grow : ∀ {b}, isT b → ∃ more : Array Value, s'.heap.get? b = some (PySem.W.tabObj more) := fun {b} h => by
    obtain ⟨more, z⟩ := un.tbls b #[] (H1 b h)
    exact ⟨_, fine' b _ z⟩
  refine ⟨rfl, ⟨fun b o e => ?_, fun b o e => ?_⟩, os, bare⟩
  · by_cases hb : isT b
    · obtain ⟨more, hm⟩ := grow hb
      obtain ⟨p, hp, rfl⟩ := ofT hb
      rw [tabs p hp] at e
      cases e
      exact .inr (.inl ⟨((code p hp).tab (tabs p hp)).isCodeTable, rfl, #[], more, rfl, (by rw [Array.empty_append]; exact hm)⟩)
    · exact .inl (key b o hb e)
  · by_cases hb : isT b
    · exact (grow hb).elim fun more hm => ⟨_, hm⟩
    · exact ⟨o, key b o hb e⟩
theorem walkGT {l : PySem.W.OpenLaw} {n k : Nat} {q : Program} {loose : List Str} {XP : (Str → Option Value) → Heap → Prop} {YP : World → Heap → Prop} {d : DefRec} {K : Params → PySem.W.Frag} {x : Str}
    (most : l.most = some n) (fits : n ≤ sizeLine) (plain : d.params.defaults = []) (room : Room k callerA) (part : ∀ (w : World) (h : Heap), YP w h → (K w.params).In h)
    (F : ∀ (w : World) (mg : Str → Option Value) (fa : Addr) (h : Heap), YP w h → (K w.params).In h → h.Ns mainGlobals mg → mg d.name = some (.ref fa) →
      ∃ (fd : FuncData) (cs : List (Addr × Addr)) (sp : Sp), (∀ p ∈ cs, h.get? p.2 = some (PySem.W.tabObj #[])) ∧ (∀ p ∈ cs, (K w.params).lookup p.2 = none) ∧ (∀ p ∈ cs, PySem.W.CodeHd h p.1 p.2) ∧ (∀ (s : Shared) (u : Value), BindsTo s fd ⟨[u], []⟩ [(x, u)]) ∧
        (∀ (H : Hp) (a : Addr) (ns : List Int), ns.length ≤ n → (∀ p ∈ cs, H p.2 = some (.tbl #[])) → SqL (K w.params) H a (ns.map V.int) → sp [.ref a] H (fun v _ => v = .bl true) E0) ∧
        ∀ base : Heap, (K w.params).In base → base.Ns mainGlobals mg → (∀ p ∈ cs, LamX.TabB base mg p.1 p.2) → FnG l.prog w (K w.params) mg base k fa fd [x] sp) :
    PySem.W.WalkO q loose XP YP l.row.toRowW d [] (fun f vs => PySem.call f vs) := by
  refine Att.attach_call most plain fun w s₀ s₁ mg mb fa o pm cd doc a vs ns G Y _ _ _ named obj whole len gens => ?_
  obtain ⟨fd, cs, sp, hT, nT, C, bind, want, hF⟩ := F w mg fa _ Y (part w _ Y) G.T.g named
  exact law_callGT (part w _ Y) G.T.g G.T.b G.T.builtins G.T.nolimit gens hT nT C G.T.bmain obj whole (Nat.le_trans len fits) room hF bind fun H hH seq => want H a ns len hH seq
end Pot

namespace Pot
open PySem PySem.Spec PyProof.Rows L2
/-! ### sets of texts -/
def keyS (e : Int × Value) : Str := match e.2 with | .str k _ => k | _ => ""
def addS (ks : List Str) (k : Str) : List Str := if k ∈ ks then ks else k :: ks
/-- at a stands a set of just the texts ks, none twice -/
def SetS (P : Program) (w : World) (h : Heap) (a : Addr) (ks : List Str) : Prop := ∃ o es ep t,
  h.get? a = some o ∧ o.ExactSet ∧ o.data = .set es ep t ∧ (ElemsOf (strKind P w) es.toList ∧ (es.toList.map keyS).Perm ks ∧ ks.Nodup) ∧ es.size < scanBound ∧ t.fits es.size = true ∧ Ris t.place.toList ∧ (w.params.followText "set-order" = true ∨ t.led = true)
section
variable {P : Program} {w : World} {A : Around} {E : Value → Shared → Prop} {s : Shared} {a : Addr} {ks : List Str}
theorem SetS.at {h h' : Heap} (R : SetS P w h a ks) (k : ∀ o, h.get? a = some o → h'.get? a = some o) : SetS P w h' a ks := by
  obtain ⟨o, es, ep, t, ho, r⟩ := R
  exact ⟨o, es, ep, t, k o ho, r⟩
theorem str_is {e : Int × Value} {z : Str} (h : (∃ k, (strKind P w).is k e.2 = true ∧ e.1 = (strKind P w).hash k) ∧ e.2.scannable = true) : (strKind P w).is z e.2 = true ↔ keyS e = z := by
  obtain ⟨⟨k, h1, _⟩, _⟩ := h
  obtain ⟨t, h2⟩ := Value.isStrOf_shape h1
  unfold keyS
  rw [h2]
  constructor
  · intro h3
    exact (strKind P w).inj _ _ _ (strKind_is P w k t) h3
  · intro h3
    rw [← h3]
    exact strKind_is P w k t
theorem sets_tail {g : Bool → Sem Unit} (hg : ∀ (b : Bool) (z : Shared) (q : Unit → Shared → Prop), q () z → wpAny (model P w) A (g b) q E z)
    {o : Obj} {es : Array (Int × Value)} {ep : Nat} {t : SetTable} (ho : s.heap.get? a = some o) (hex : o.ExactSet) (hd : o.data = .set es ep t)
    {fs : Array (Int × Value)} {u : SetTable} (gg : ElemsOf (strKind P w) fs.toList ∧ (fs.toList.map keyS).Perm ks ∧ ks.Nodup)
    (hb : fs.size < scanBound) (hf : u.fits fs.size = true) (hr : Ris u.place.toList) (hl : w.params.followText "set-order" = true ∨ u.led = true) {was : Bool} {R : Option Bool → Shared → Prop}
    (hR : ∀ h', Heap.SameBut a s.heap h' → SetS P w h' a ks → R (some true) { s with heap := h' }) :
    wpAny (model P w) A (do
        storeSet a fs u
        if (!was && u.tooFull) = true then do
            g (relayAll u fs (SetTable.grown fs.size)).2.2
            storeSet a (relayAll u fs (SetTable.grown fs.size)).1 (relayAll u fs (SetTable.grown fs.size)).2.1
            pure (some true)
          else pure (some true)) R E s := by
  have o1 := store_at (es' := fs) (t' := u) ho hd
  have b1 := Heap.SameBut.update s.heap a (Obj.putSet fs u)
  refine wpAny_bind (wpAny_storeSet_of ho hd ?_ (fits_of_scanBound hb))
  by_cases hc : (!was && u.tooFull) = true
  · rw [if_pos hc]
    obtain ⟨p1, p2, p3, p4⟩ : _ ∧ _ ∧ _ ∧ _ := ⟨relayAll_perm u fs (SetTable.grown fs.size), relayAll_fits u fs (SetTable.grown fs.size), relayAll_ris u fs (SetTable.grown fs.size), relayAll_led u fs (SetTable.grown fs.size)⟩
    generalize relayAll u fs (SetTable.grown fs.size) = Y at p1 p2 p3 p4 ⊢
    obtain ⟨gs, v, x⟩ := Y
    have sz : gs.size = fs.size := by
      have := p1.length_eq
      simpa using this
    have hb2 : gs.size < scanBound := Nat.lt_of_le_of_lt (Nat.le_of_eq sz) hb
    refine wpAny_bind (hg _ _ _ (wpAny_bind (wpAny_storeSet_of o1 rfl ?_ (fits_of_scanBound hb2))))
    have o2 := store_at (es' := gs) (t' := v) o1 rfl
    refine wpAny_pure (hR _ (b1.trans (Heap.SameBut.update _ a _)) ⟨_, gs, _, v, o2, hex, rfl, ⟨fun e he => gg.1 e (p1.mem_iff.mp he), (p1.map keyS).trans gg.2.1, gg.2.2⟩, hb2, p2, p3, ?_⟩)
    rcases hl with z | z
    · exact .inl z
    · exact .inr (p4.trans z)
  · rw [if_neg hc]
    exact wpAny_pure (hR _ b1 ⟨_, fs, _, u, o1, hex, rfl, gg, hb, hf, hr, hl⟩)
theorem sets_add {k : Str} {tk : Tok} {Q : Bool → Shared → Prop} (R : SetS P w s.heap a ks) (room : ks.length + 1 < scanBound)
    (hQ : ∀ b h', Heap.SameBut a s.heap h' → SetS P w h' a (addS ks k) → Q b { s with heap := h' }) :
    wpAny (model P w) A (setAddHashed a (.str k tk) ((strKind P w).hash k)) Q E s := by
  obtain ⟨o, es, ep, t, ho, hex, hd, ⟨gel, gpm, gnd⟩, hb, hf, hr, hl⟩ := id R
  have isk : (strKind P w).is k (.str k tk) = true := strKind_is P w k tk
  have scn : (Value.str k tk).scannable = true := rfl
  unfold setAddHashed setAddHashedIn
  refine wpAny_holding (wpAny_bind (wpAny_setState_of ho hd hf ?_))
  dsimp only
  rw [byScan_of scn hb gel]
  simp only [↓reduceIte]
  unfold setAddByScan
  refine wpAny_bind (wpAny_bind (wpAny_rule (wpAny_bind (wpAny_setScan_of isk ho hd hf gel ?_))))
  cases hx : List.findIdx? (fun e => (strKind P w).is k e.2) es.toList with
  | some j =>
    dsimp only
    obtain ⟨hj, pj, _⟩ := List.findIdx?_eq_some_iff_getElem.mp hx
    have hm : k ∈ ks := gpm.mem_iff.mp (List.mem_map.mpr ⟨_, List.getElem_mem hj, (str_is (gel _ (List.getElem_mem hj))).mp pj⟩)
    refine wpAny_pure (wpAny_pure (hQ _ s.heap (Heap.SameBut.refl a s.heap) ?_))
    unfold addS
    rw [if_pos hm]
    exact R
  | none =>
    dsimp only
    have hn : k ∉ ks := fun z => by
      obtain ⟨e, he, q⟩ := List.mem_map.mp (gpm.mem_iff.mpr z)
      have c := List.findIdx?_eq_none_iff.mp hx e he
      rw [(str_is (gel e he)).mpr q] at c
      cases c
    obtain ⟨p1, p2, p3, p4⟩ : _ ∧ _ ∧ _ ∧ _ := ⟨layNew_perm t es ((strKind P w).hash k) (.str k tk), layNew_fits t es ((strKind P w).hash k) (.str k tk), layNew_ris t es ((strKind P w).hash k) (.str k tk) hr, layNew_led t es ((strKind P w).hash k) (.str k tk)⟩
    generalize layNew t es ((strKind P w).hash k) (.str k tk) = Y at p1 p2 p3 p4 ⊢
    obtain ⟨fs, u, was, gave⟩ := Y
    dsimp only at p1 p2 p3 p4 ⊢
    rw [Array.toList_push] at p1
    have pc := p1.trans (List.perm_append_singleton _ _)
    have eadd : addS ks k = k :: ks := if_neg hn
    have gg : ElemsOf (strKind P w) fs.toList ∧ (fs.toList.map keyS).Perm (addS ks k) ∧ (addS ks k).Nodup := by
      rw [eadd]
      refine ⟨fun e he => ?_, (pc.map keyS).trans (gpm.cons k), List.nodup_cons.mpr ⟨hn, gnd⟩⟩
      rcases List.mem_cons.mp (pc.mem_iff.mp he) with z | z
      · rw [z]; exact ⟨⟨k, isk, rfl⟩, scn⟩
      · exact gel e z
    have sz : fs.size = ks.length + 1 := by
      have h1 := gg.2.1.length_eq
      rw [eadd, List.length_map, Array.length_toList] at h1
      exact h1
    have hb1 : fs.size < scanBound := by rw [sz]; exact room
    have hled : w.params.followText "set-order" = true ∨ u.led = true := by
      rcases hl with z | z
      · exact .inl z
      · exact .inr (p4.trans z)
    have fin : ∀ h', Heap.SameBut a s.heap h' → SetS P w h' a (addS ks k) → Q true { s with heap := h' } := fun h' => hQ true h'
    refine wpAny_bind ?_
    have gw : ∀ (b : Bool) (z : Shared) (q : Unit → Shared → Prop), q () z → wpAny (model P w) A (match b with | true => rule "set.scan.the-table-gave-way" | false => pure ()) q E z := fun b z q hq => by
      cases b
      · exact wpAny_pure hq
      · exact wpAny_rule hq
    refine gw _ _ _ ?_
    split
    · refine wpAny_bind ?_
      rw [hashByValue_scannable 8 scn]
      refine wpAny_pure (sets_tail gw ho hex hd gg hb1 ?_ ?_ ?_ ?_)
      · first | (split <;> first | exact p2 | exact SetTable.fits_plain_off p2) | exact p2
      · first | (split <;> exact p3) | exact p3
      · first | (split <;> exact hled) | exact hled
      · intro h' sb r; dsimp only; exact wpAny_pure (fin h' sb r)
    · refine wpAny_bind (wpAny_pure ?_)
      simp only [↓reduceIte]
      refine sets_tail gw ho hex hd gg hb1 p2 p3 hled ?_
      intro h' sb r; dsimp only; exact wpAny_pure (fin h' sb r)
end
end Pot

namespace Pot
open PySem PySem.Spec PyProof.Rows L2 PySem.W PySem.Calls
/-- the texts of a row, none twice -/
def setL : List Str → List Str := List.foldl addS []
section
variable {P : Program} {w : World} {A : Around} {E : Value → Shared → Prop} {s : Shared}
theorem addS_len (ks : List Str) (k : Str) : (addS ks k).length ≤ ks.length + 1 := by
  unfold addS; split
  · omega
  · exact Nat.le_refl _
theorem setL_take {zs : List Str} {i : Nat} {z : Str} (h : zs[i]? = some z) : setL (zs.take (i + 1)) = addS (setL (zs.take i)) z := by
  unfold setL
  rw [List.take_add_one, h, List.foldl_append]; rfl
theorem fold_len (zs ks : List Str) : (List.foldl addS ks zs).length ≤ ks.length + zs.length := by
  induction zs generalizing ks with
  | nil => exact Nat.le_refl _
  | cons z zs ih =>
    have h1 := ih (addS ks z)
    have h2 := addS_len ks z
    simp only [List.foldl_cons, List.length_cons]
    omega
theorem setL_len (zs : List Str) : (setL zs).length ≤ zs.length := by have := fold_len zs []; simpa [setL] using this
theorem mem_addS {ks : List Str} {k x : Str} : x ∈ addS ks k ↔ x ∈ ks ∨ x = k := by
  unfold addS
  split
  · rename_i h
    exact ⟨.inl, fun z => z.elim id fun e => e ▸ h⟩
  · rw [List.mem_cons]; exact Or.comm
theorem mem_fold {x : Str} (zs : List Str) : ∀ ks : List Str, x ∈ List.foldl addS ks zs ↔ x ∈ ks ∨ x ∈ zs := by
  induction zs with
  | nil => intro ks; simp
  | cons z zs ih =>
    intro ks
    rw [List.foldl_cons, ih, mem_addS, List.mem_cons, or_assoc]
theorem mem_setL {x : Str} {zs : List Str} : x ∈ setL zs ↔ x ∈ zs := by
  have := mem_fold (x := x) zs []
  simpa [setL] using this
/-- set.update's loop over texts -/
theorem sets_loop {I : Addr} {fp wr : List Addr} {G : Array GenState → Array GenState → Prop} {n : Nat} {Pv : Nat → Value → Prop} {St : Nat → Shared → Prop} {R : Result → Shared → Prop}
    (W : WalksS P w A.in1 I fp wr G n Pv St) (S : Addr) (nf : S ∉ fp) (zs : List Str) (en : n = zs.length) (lb : zs.length + 1 < scanBound) (each : ∀ i v, Pv i v → ∃ z t, zs[i]? = some z ∧ v = .str z t) :
    ∀ (m i : Nat) (z : Shared), n - i = m → i ≤ n → St i z → SetS P w z.heap S (setL (zs.take i)) →
      (∀ z', Moved (S :: wr) G z z' → SetS P w z'.heap S (setL zs) → R (.ok (.ret .none)) z') →
      codeAny (model P w) A (.builtin "set.update.loop" ⟨[.ref S, .ref I], []⟩) R z := by
  have nw : S ∉ wr := fun h => nf (W.sub _ h)
  have up : ∀ b ∈ wr, b ∈ S :: wr := fun b hb => List.mem_cons_of_mem _ hb
  intro m
  induction m with
  | zero =>
    intro i z e1 e2 st hS hR
    obtain rfl : i = n := by omega
    refine codeAny_builtin F.entry_set_update_loop ?_
    rw [Around.under_plainId F.plain_set_update_loop _]
    show wpAny _ A.in1 (pyNext (.ref I) >>= _) _ _ z
    refine wpAny_bind (W.done z _ _ st fun z' mv => ?_)
    show wpAny _ A.in1 (ret Value.none) _ _ z'
    rw [List.take_of_length_le (show zs.length ≤ i by omega)] at hS
    exact wpAny_pure (hR z' (mv.mono up) (hS.at fun o e => mv.heap S o nw e))
  | succ m ih =>
    intro i z e1 e2 st hS hR
    have lt : i < n := by omega
    refine codeAny_builtin F.entry_set_update_loop ?_
    rw [Around.under_plainId F.plain_set_update_loop _]
    show wpAny _ A.in1 (pyNext (.ref I) >>= _) _ _ z
    refine wpAny_bind (W.item i z _ _ lt st fun v z' pv st' mv => ?_)
    obtain ⟨y, t, hy, rfl⟩ := each i v pv
    have hS' : SetS P w z'.heap S (setL (zs.take i)) := hS.at fun o e => mv.heap S o nw e
    show wpAny _ A.in1 (holding [Value.str y t] (setAdd S (.str y t)) >>= _) _ _ z'
    refine wpAny_bind (wpAny_holding ?_)
    unfold setAdd
    refine wpAny_holding (wpAny_bind ((strKind P w).pyHash (k := y) (strKind_is _ _ _ _) ?_))
    have len : (setL (zs.take i)).length + 1 < scanBound := by
      have h1 := setL_len (zs.take i)
      rw [List.length_take] at h1
      omega
    refine sets_add (s := { z' with toks := z'.toks + 1 }) hS' len fun b h' sb hS2 => ?_
    rw [← setL_take hy] at hS2
    refine wpAny_pure ⟨plainId_quiet F.plain_set_update_loop _, ih (i + 1) _ (by omega) lt (W.frame _ z' _ _ st' (Nat.le_succ _) fun b hb o e => ?_) hS2 fun z'' mv2 hS3 => ?_⟩
    · exact (sb.2 b fun h => nf (h ▸ hb)).trans e
    · refine hR z'' (Moved.trans W.gtrans ((mv.mono up).then_heap (Nat.le_succ _) fun b o hb e => ?_) mv2) hS3
      exact (sb.2 b fun h => hb (h ▸ List.mem_cons_self)).trans e
/-- what is wanted behind the filling -/
def FilledS (P : Program) (w : World) (s : Shared) (zs : List Str) (s' : Shared) : Prop := ∃ h' tk, s' = { s with heap := h', toks := tk } ∧ SetS P w h' s.heap.objs.size (setL zs) ∧ ∀ b o, s.heap.get? b = some o → h'.get? b = some o
theorem sets_new {h : Heap} {a : Addr} (ho : h.get? a = some (emptySet w)) : SetS P w h a [] := by
  refine ⟨_, #[], 0, _, ho, ⟨rfl, rfl, rfl⟩, rfl, ⟨fun e he => by simp at he, List.Perm.nil, List.nodup_nil⟩, by decide, rfl, List.Pairwise.nil, ?_⟩
  show _ ∨ (!w.params.followText "set-order") = true
  cases w.params.followText "set-order"
  · exact .inr rfl
  · exact .inl rfl
set_option maxHeartbeats 4000000 in
theorem call_set_ls {l : Addr} {items : Array Value} (zs : List Str) {Q : Value → Shared → Prop} (hh : A.handled = none) (hl : s.heap.IsList l items) (hit : StrsAre items.toList zs) (hb : zs.length + 1 < scanBound)
    (hq : ∀ s', FilledS P w s zs s' → Q (.ref s.heap.objs.size) s') : wpAny (model P w) A (call (.type "set") [.ref l]) Q E s := by
  have size : items.size = zs.length := by
    rw [← Array.length_toList]; exact StrsAre.length hit
  have made := F.called_set.made
  have below := F.called_set.sub
  obtain ⟨_, _, chain⟩ := F.called_set.mro
  have nt := F.called_set.notType
  have cc := F.called_set.canCreate
  have ck := F.typeCall_set_1 (.ref l)
  refine wpAny_call (codeAny_of_tree (show wpAny _ _ (callAny (.type "set") _) _ _ _ from wpAny_pure ⟨Code.quiet_builtin _ (by decide +kernel), codeAny_builtin F.entry_type_call ?_⟩))
  rw [Around.under_plain (weight_type_call_type "set" [.ref l] []) rfl]
  repeat (any_goals (first | assumption | wp_step))
  refine codeAny_mono (code_set_led1 (.ref l) (E := E) (Q₁ := fun obj z => obj = .ref s.heap.objs.size ∧ z = { s with heap := s.heap.push (emptySet w) }) ⟨rfl, rfl⟩) fun r z hr => ?_
  rcases r with _ | fl
  case error => exact hr
  cases fl <;> first | exact hr.elim | skip
  obtain ⟨rfl, rfl⟩ := hr
  have at0 : (s.heap.push (emptySet w)).get? s.heap.objs.size = some (emptySet w) := Heap.get?_push_size _ rfl
  have ty0 : Shared.TypeIs { s with heap := s.heap.push (emptySet w) } (.ref s.heap.objs.size) "set" := ⟨_, at0, rfl⟩
  have li := F.called_set.init.lookup
  have bi := F.called_set.init.bind (.ref s.heap.objs.size)
  repeat (any_goals (first | assumption | wp_step))
  refine codeAny_mono (codeAny_call_builtin (R := wants (fun r z => r = .none ∧ FilledS P w s zs z) E) F.called_set.init.plain F.entry_set_init (check_set_init_1 ty0 ?_)) fun r z hz => ?_
  · obtain ⟨⟨_, od, _, os⟩, hol, hcl, nl, hdl⟩ := hl
    simp only at hcl hdl
    subst hcl
    subst hdl
    have keep : (s.heap.push (emptySet w)).get? l = some { cls := .type "list", dict := od, data := .seq items nl, slots := os } := Heap.get?_push_of_some _ hol
    have s1 := F.sub_list_set
    have s2 := F.sub_list_frozenset
    have s3 : (Value.type "list" == Value.type "dict") = false := by decide
    have isl : (s.heap.push (emptySet w)).IsList l items := ⟨_, keep, rfl, nl, rfl⟩
    unfold Builtin.«set.__init__» noKeywords Builtin.Frozenset.updateFrom
    generalize hPI : pyIter = PI
    wp_walk
    subst hPI
    refine wpAny_pyIter_list isl (wpAny_bind (wpAny_runValue ?_))
    have lt : l < s.heap.objs.size := Heap.lt_size hol
    have sz : (s.heap.push (emptySet w)).objs.size = s.heap.objs.size + 1 := Heap.size_push ..
    have ne1 : l ≠ (s.heap.push (emptySet w)).objs.size := by rw [sz]; exact Nat.ne_of_lt (Nat.lt_succ_of_lt lt)
    have ne2 : s.heap.objs.size ∉ [(s.heap.push (emptySet w)).objs.size, l] := by
      rw [sz]
      intro z
      rcases List.mem_cons.mp z with z | z
      · exact absurd z (Nat.ne_of_lt (Nat.lt_succ_self _))
      · exact absurd (List.mem_singleton.mp z) (Nat.ne_of_gt lt)
    have each : ∀ (i : Nat) (v : Value), items[i]? = some v → ∃ k t, zs[i]? = some k ∧ v = .str k t := fun i v hv => by
      have h1 : items.toList[i]? = some v := by rw [Array.getElem?_toList]; exact hv
      clear hv size isl keep hol hb hq
      generalize items.toList = L at hit h1
      induction hit generalizing i with
      | nil => simp at h1
      | cons k t hr ih =>
        cases i with
        | zero => exact ⟨k, t, rfl, by simpa using h1.symm⟩
        | succ i => exact ih i (by simpa using h1)
    refine sets_loop ((Walks.list (show A.in1.in1.in1.handled = none by simp [hh]) _ l ne1 items).toS) s.heap.objs.size ne2 zs size hb each (items.size - 0) 0 _ (by omega) (Nat.zero_le _) ⟨⟨_, Heap.get?_push_size _ rfl, rfl, rfl⟩, isl.push _⟩ (sets_new (Heap.get?_push_of_some _ at0)) fun s' hm hS => ?_
    obtain ⟨h', g, d, tk, o⟩ := s'
    cases (show g = s.gens from hm.gens)
    cases (show d = s.drawn from hm.drawn)
    cases (show o = s.os from hm.os)
    refine (show wpAny _ _ _ _ _ _ from wpAny_pure (show wpAny _ _ (ret Value.none) _ _ _ from wpAny_pure ⟨rfl, h', tk, rfl, hS, fun b o e => ?_⟩))
    have hb0 : b < s.heap.objs.size := Heap.lt_size e
    refine hm.heap b o (fun z => ?_) (Heap.get?_push_of_some _ (Heap.get?_push_of_some _ e))
    rcases List.mem_cons.mp z with z | z
    · exact absurd z (Nat.ne_of_lt hb0)
    · exact absurd ((List.mem_singleton.mp z).trans sz) (Nat.ne_of_lt (Nat.lt_succ_of_lt hb0))
  · rcases r with _ | fl
    case error => exact hz
    cases fl <;> first | exact hz.elim | skip
    obtain ⟨rfl, f⟩ := hz
    obtain ⟨h', tk, rfl, hS, k⟩ := id f
    repeat (any_goals (first | assumption | wp_step))
    exact hq _ ⟨_, _, rfl, hS, k⟩
/-- sorted of a set of texts -/
theorem sorted_sets {a : Addr} {ks : List Str} {Q : Value → Shared → Prop} (R : SetS P w s.heap a ks) (hh : A.handled = none) (hn4 : ks.length < 64)
    (hQ : ∀ s' p (out : Array Value) (c : Nat) (ys : List Str), (∀ b o, s.heap.get? b = some o → s'.heap.get? b = some o) → s'.gens = s.gens → s'.os = s.os → s.heap.objs.size ≤ p →
      s'.heap.get? p = some (seqObj "list" out c) → StrsAre out.toList ys → ys.Perm ks → sortedS ys = true → Q (.ref p) s') :
    wpAny (model P w) A (call (.builtin "sorted") [.ref a]) Q E s := by
  obtain ⟨o, es, ep, t, ho, hex, hd, ⟨gel, gpm, gnd⟩, hb, hf, hr, hl⟩ := R
  refine Calls.call_function_entry kind_sorted plain_sorted entry_sorted (args_sorted1 _) ?_
  unfold Builtin.«sorted»
  refine wpAny_bind (m := checkCount "sorted" 1 1 _) (wpAny_pure ?_)
  refine wpAny_bind (collect_set (A := A.in1) hh ⟨o, ho, hex.1, hd⟩ hf hb hr hl fun s1 vs k1 hz g1 o1 pm => ?_)
  have sl : ∀ l : List Value, (∀ v ∈ l, ∃ e : Int × Value, e ∈ es.toList ∧ e.2 = v) → StrsAre l (l.map fun v => keyS (0, v)) := by
    intro l
    induction l with
    | nil => intro _; exact .nil
    | cons v l ih =>
      intro h
      obtain ⟨e, he, rfl⟩ := h v List.mem_cons_self
      obtain ⟨⟨k, h1, _⟩, _⟩ := gel e he
      obtain ⟨tk, h2⟩ := Value.isStrOf_shape h1
      rw [h2]
      exact .cons k tk (ih fun u hu => h u (List.mem_cons_of_mem _ hu))
  have hv : StrsAre vs (vs.map fun v => keyS (0, v)) := sl vs fun v hv => by
    obtain ⟨e, he, rfl⟩ := List.mem_map.mp (pm.mem_iff.mp hv)
    exact ⟨e, he, rfl⟩
  have pk : (vs.map fun v => keyS (0, v)).Perm ks := by
    have h1 := pm.map fun v => keyS (0, v)
    rw [List.map_map] at h1
    exact h1.trans gpm
  have lv : vs.length = ks.length := by have := pk.length_eq; rw [List.length_map] at this; exact this
  have ls : vs.length ≤ sizeLine := by rw [lv, sizeLine_eq]; omega
  refine wpAny_bind (wpAny_newList ?_ ls)
  have hL : (s1.heap.push (seqObj "list" vs.toArray 0)).get? s1.heap.objs.size = some (seqObj "list" vs.toArray 0) := Heap.get?_push_size _ rfl
  refine wpAny_bind (wpAny_holding (wpAny_call_entry slot_list_sort ⟨_, hL, rfl⟩ entry_list_sort (list_sort_treeK strKind_oneLt hL hv.keysOf (fun v₁ v₂ rest e => keyKind_strs (by rw [← e]; exact hv)) (by rw [lv]; exact hn4) fun st' hp hs => ⟨_, rfl, ?_⟩) (args_list_sort _)))
  obtain ⟨ys, a1, a2, a3⟩ := sorted_out_str hv hp hs
  obtain ⟨c, hc⟩ := sortedHeap_at (vs := vs) (out := (arrOf st').map (·.2)) hL
  refine wpAny_pure ⟨_, rfl, hQ _ s1.heap.objs.size _ c ys (fun b u e => ?_) g1 o1 hz hc a1 (a2.trans pk) a3⟩
  have h1 := k1 b u e
  have hlt := Heap.lt_size h1
  show (sortedHeap (s1.heap.push (seqObj "list" vs.toArray 0)) s1.heap.objs.size vs _).get? b = some u
  rw [sortedHeap_old (Nat.ne_of_lt hlt) (by rw [size_push']; exact Nat.lt_succ_of_lt hlt)]
  exact Heap.get?_push_of_some _ h1
end
section
variable {X : Cx} {K : PySem.W.Frag}
def SetSO (P : Program) (w : World) (a : Addr) (ks : List Str) : HO := .ext fun h => SetS P w h a ks
theorem setS_new {P : Program} {w : World} {H : Hp} {h : Heap} {a : Addr} {ks : List Str} (R : SetS P w h a ks) : ObjOk P w H h a (SetSO P w a ks) := by
  have R0 := R
  obtain ⟨o, _, _, _, ho, _⟩ := R
  exact ⟨R0, ⟨o, ho⟩, fun h1 h2 R k => SetS.at R k⟩
/-- set(xs) of texts -/
def rSetLs (K : PySem.W.Frag) (P : Program) (w : World) : List V → Hp → VK → Prop := fun xs H Q => ∃ (a : Addr) (zs : List Str), xs = [V.ref a] ∧ SqL K H a (zs.map V.str) ∧ zs.length ≤ 1000 ∧
  ∀ (p : Addr), H p = none → Q (.ref p) (upd H p (SetSO P w p (setL zs)))
theorem cr_setLs (hc : X.calm = true) : CallR X (.type "set") (rSetLs X.K X.prog X.w) := by
  intro pins s σ H vs us Q I r h
  obtain ⟨a, zs, rfl, hS, hl, q⟩ := h
  rw [Vals.ref1 r]
  obtain ⟨its, rv, pl, hz⟩ := I.list hS
  refine call_set_ls zs (I.ok.hd hc) pl.isList (by simpa using Vals.strs rv) (by unfold scanBound; omega) fun s' f => ?_
  obtain ⟨h', tk, rfl, R, k⟩ := f
  have hn : H s.heap.objs.size = none := I.hok.fresh (Nat.le_refl _)
  exact ⟨.ref s.heap.objs.size, _, I.laid (t' := tk) k (Nat.le_refl _) (setS_new R), rfl, q _ hn⟩
theorem kc_setLs {P : Program} {w : World} (hc : X.calm = true := by rfl) (h : X.K = K := by rfl) (hp : X.prog = P := by rfl) (hw : X.w = w := by rfl) : CallR X (.type "set") (rSetLs K P w) := by subst h; subst hw; subst hp; exact cr_setLs hc
def rSortedSs (P : Program) (w : World) : List V → Hp → VK → Prop := fun vs H Q => ∃ (a : Addr) (ks : List Str), vs = [V.ref a] ∧ H a = some (SetSO P w a ks) ∧ ks.length < 64 ∧
  ∀ (ys : List Str) (p : Addr), ys.Perm ks → sortedS ys = true → H p = none → Q (.ref p) (upd H p (.lst (ys.map V.str)))
theorem cr_sortedSs (hc : X.calm = true) : CallR X (.builtin "sorted") (rSortedSs X.prog X.w) := by
  intro pins s σ H vs us Q I r h
  obtain ⟨a, ks, rfl, ha, h4, q⟩ := h
  rw [Vals.ref1 r]
  refine sorted_sets ((I.hok a _ ha).1) (I.ok.hd hc) h4 fun s' p out c ys k g o hp hg hi hs hl => ?_
  have hlen : (ys.map V.str).length ≤ sizeLine := by rw [List.length_map, hs.length_eq, sizeLine_eq]; omega
  have hn : H p = none := I.hok.fresh hp
  have J : Inv X pins σ (upd H p (.lst (ys.map V.str))) { s with heap := s'.heap, gens := s'.gens, drawn := s'.drawn, toks := s'.toks } :=
    I.call (ch := []) (Un.laid k hp hn) (I.hok.laid k hp ⟨hlen, out.toList, c, vals_of_strs hi, hg⟩) (by rw [g]; exact I.bare) (fun _ z => nomatch z)
  have e : s' = { s with heap := s'.heap, gens := s'.gens, drawn := s'.drawn, toks := s'.toks } := by
    cases s'; cases s; cases o; rfl
  rw [e]
  exact ⟨.ref p, _, J, rfl, q ys p hs hl hn⟩
theorem kc_sortedSs {P : Program} {w : World} (hc : X.calm = true := by rfl) (hp : X.prog = P := by rfl) (hw : X.w = w := by rfl) : CallR X (.builtin "sorted") (rSortedSs P w) := by subst hw; subst hp; exact cr_sortedSs hc
end
end Pot

namespace Pot
open PySem PySem.Spec PyProof.Rows L2
section
variable {X : Cx}
/-- len of a set of texts -/
def rLenSs (P : Program) (w : World) : List V → Hp → VK → Prop := fun xs H Q => ∃ (a : Addr) (ks : List Str), xs = [V.ref a] ∧ H a = some (SetSO P w a ks) ∧ Q (.int ks.length) H
theorem cr_lenSs : CallR X (.builtin "len") (rLenSs X.prog X.w) := by
  intro pins s σ H vs us Q I r h
  obtain ⟨a, ks, rfl, ha, q⟩ := h
  rw [Vals.ref1 r]
  obtain ⟨o, es, ep, t, ho, hex, hd, ⟨_, hp, _⟩, hb, hf, _⟩ := (I.hok a _ ha).1
  have e : es.size = ks.length := by rw [← hp.length_eq, List.length_map, Array.length_toList]
  refine PySem.call_len_set ho hex hd hf (by unfold scanBound at hb; omega) ⟨.int ks.length, H, I.tok _, ⟨_, by rw [e]⟩, q⟩
theorem kc_lenSs {P : Program} {w : World} (hp : X.prog = P := by rfl) (hw : X.w = w := by rfl) : CallR X (.builtin "len") (rLenSs P w) := by subst hp; subst hw; exact cr_lenSs
end
end Pot

namespace Pot
open PySem PySem.Spec PyProof.Rows L2
/-! ### dicts whose keys are tuples: one written with one pair, the greatest of the values -/
def tDispT (tk tv : TE) : TE := fun σ H Q => ∀ p, H p = none → tk σ (upd H p (.dT [])) fun x H1 => tv σ H1 fun y H2 => ∃ (b : Addr) (k : List Key), x = .ref b ∧ H2 b = some (.tup (k.map kV)) ∧ H2 p = some (.dT []) ∧ Q (.ref p) (upd H2 p (.dT [(k, y)]))
def rValsT : V → List V → Hp → VK → Prop := fun x xs H Q => ∃ (a : Addr) (kvs : List (List Key × V)), x = .ref a ∧ xs = [] ∧ H a = some (.dT kvs) ∧ ∀ p, H p = none → Q (.ref p) (upd H p (viewO "dict_values" p a))
def rMaxT : List V → Hp → VK → Prop := fun xs H Q => ∃ (p a : Addr) (kvs : List (List Key × V)) (ns : List Int), xs = [.ref p] ∧ H p = some (viewO "dict_values" p a) ∧ H a = some (.dT kvs) ∧ kvs.map Prod.snd = ns.map V.int ∧ 0 < ns.length ∧ ∀ m, m ∈ ns → (∀ y, y ∈ ns → y ≤ m) → Q (.int m) H
section
variable {X : Cx}
theorem pe_dispT {k v : Expr} {pos : Pos} {tk tv : TE} (hu : X.A.units + 1 < cLine) (hk : PE X k tk) (hv : PE X v tv) : PE X (.Dict [some k] [v] pos) (tDispT tk tv) := by
  refine ⟨fun pins s σ H Q I q => ?_⟩
  have fresh := I.hok.fresh (Nat.le_refl s.heap.objs.size)
  have J := I.laid (t' := s.toks) (a := s.heap.objs.size) (o := .dT []) (h' := s.heap.push { cls := .type "dict", data := .dict #[] }) (fun _ _ z => Heap.get?_push_of_some _ z) (Nat.le_refl _) (dt_empty s.heap I.big)
  have two : PPs X pos [some k] [v] [(tk, tv)] := pps_cons hk hv pps_nil
  rw [arm_eval_Dict, zip_pairTrees [some k] [v] X.env pos rfl rfl, dictDisplay_pairs _ (by exact List.cons_ne_nil _ _) (by exact Nat.le_of_ble_eq_true rfl)]
  have go := two.run pins _ σ _ (fun ps H2 => match ps with
    | [(x, y)] => ∃ (b : Addr) (k : List Key), x = .ref b ∧ H2 b = some (.tup (k.map kV)) ∧ H2 s.heap.objs.size = some (.dT []) ∧ Q (.ref s.heap.objs.size) (upd H2 s.heap.objs.size (.dT [(k, y)]))
    | _ => False) J (q _ fresh)
  refine wpAny_bind (wpAny_standAt (wpAny_bind (wpAny_subDictH (knd := tupleKind (mixKind X.prog X.w)) (Q := fun d s2 => wpAny (model X.prog X.w) X.A (pure (Value.ref d)) (EP X pins σ Q) X.xe s2) (show X.A.units < cLine by omega) (by exact Nat.le_of_ble_eq_true rfl) (thn go fun ws s2 res => ?_))))
  obtain ⟨ps, H2, I2, rel, z⟩ := res
  cases rel with
  | nil => exact z.elim
  | @cons a0 b0 as bs r0 t =>
    cases t with
    | cons _ _ => exact z.elim
    | nil =>
      obtain ⟨x, y⟩ := a0
      obtain ⟨u, r⟩ := b0
      obtain ⟨r1, r2⟩ := r0
      obtain ⟨b, ks, rfl, hb, hd, z⟩ := z
      obtain rfl : u = Value.ref b := r1
      obtain ⟨small, sys, xs, kt, dd⟩ := dt_of I2.hok hd
      cases kt
      refine ⟨[(ks, b, r)], ⟨rfl, rfl, L2.key_of I2.hok hb, trivial⟩, dd, fun h2 tk dd2 only => wpAny_pure ?_⟩
      obtain ⟨o, es, ep, at_, c1, c2, c3, c4, c5⟩ := dd2
      have J2 := d_write (t' := tk) I2 (by rw [hd]; exact True.intro) only ⟨o, at_⟩ (ob := .dT [(ks, y)]) ⟨by show 1 ≤ sizeLine; decide, sys, _, .cons ⟨rfl, by rw [upd_ne (ne_of hb hd (fun w => nomatch w))]; exact hb, r2⟩ .nil, o, es, ep, at_, c1, c2, c3, c5⟩
      exact ⟨.ref _, _, J2, rfl, z⟩
theorem mt_valuesT : MtR X "dict.values" rValsT := by
  intro pins s σ H x xs v us Q I rx rxs h
  obtain ⟨a, kvs, rfl, rfl, at_, q⟩ := h
  cases rx
  cases rxs
  obtain ⟨_, sys, xs, _, dd⟩ := dt_of I.hok at_
  obtain ⟨o, es, ep, lies, c1, c2, _⟩ := id dd
  refine call_meetsIn PySem.F.slot_dict_values dd.typeIs PySem.F.entry_dict_values (PySem.F.args_dict_values_1 _) (meets_dict_values_raw a sys) ⟨⟨es, ep, o, lies, c1, c2⟩, ?_⟩
  exact ⟨.ref s.heap.objs.size, _, I.laid (t' := s.toks) (fun _ _ z => Heap.get?_push_of_some _ z) (Nat.le_refl _) (viewO_ok (Heap.get?_push_size _ rfl)), rfl, q _ (I.hok.fresh (Nat.le_refl _))⟩
theorem mates {α β : Type} {F : α → β → Prop} : ∀ {l : List α} {m : List β} {i : Nat} {y : β}, Paired F l m → m[i]? = some y → ∃ x, l[i]? = some x ∧ F x y
  | _, _, i, y, .nil, g => by simp at g
  | _, _, 0, y, .cons (a := x) f _, g => ⟨x, rfl, by cases g; exact f⟩
  | _, _, i + 1, y, .cons _ t, g => mates (i := i) t g
theorem cr_maxT (hc : X.calm = true) : CallR X (.builtin "max") rMaxT := by
  intro pins s σ H xs us Q I rx h
  obtain ⟨p, a, kvs, ns, rfl, view, at_, vals, some_, q⟩ := h
  rw [Vals.ref1 rx]
  have hv : s.heap.get? p = some (DSub.viewOb "dict_values" a) := (show ObjOk X.prog X.w H s.heap p (viewO "dict_values" p a) from I.hok p _ view).1
  obtain ⟨_, sys, xs, kt, dd⟩ := dt_of I.hok at_
  obtain ⟨o, es, ep, lies, c1, c2, c3, c4, c5⟩ := id dd
  have n1 : kvs.length = ns.length := by simpa using congrArg List.length vals
  have n2 : xs.length = kvs.length := (Paired.length kt).symm
  have n3 : es.size = ns.length := by rw [size_of_entries c3]; omega
  have val : ∀ (i : Nat) (e : DictEntry), es[i]? = some e → ∃ t, e.val = .int (ns.getD i 0) t := fun i e g => by
    rw [entry_at c3, Option.map_eq_some_iff] at g
    obtain ⟨y, gy, rfl⟩ := g
    obtain ⟨x, gx, f⟩ := mates kt gy
    have g2 : (kvs.map Prod.snd)[i]? = some x.2 := by rw [List.getElem?_map, gx]; rfl
    rw [vals, List.getElem?_map, Option.map_eq_some_iff] at g2
    obtain ⟨n, gn, ex⟩ := g2
    have r := f.2.2
    rw [← ex] at r
    obtain ⟨t, et⟩ := r
    refine ⟨t, ?_⟩
    rw [List.getD_eq_getElem?_getD, gn]
    exact et
  have la : a < s.heap.objs.size := Heap.lt_size lies
  refine call_max_walk (DSub.iter_vals hv lies c2 ?_)
  refine ⟨s.heap.objs.size, [s.heap.objs.size, a], [s.heap.objs.size], es.size, fun i v => ∃ t, v = .int (ns.getD i 0) t, _, fun i j => decide (ns.getD i 0 > ns.getD j 0), rfl, DSub.walksVal (a := a) (show X.A.in1.handled = none from I.ok.hd hc) (Nat.ne_of_lt la) c2 val, ⟨Heap.get?_push_size _ rfl, Heap.get?_push_of_some _ lies⟩, fun b hb => ?_, by omega, CmpOf.ints_gt (fun i => ns.getD i 0) (fun i v z => z), fun v h2 tk is_ keep => ?_⟩
  · show b < (s.heap.push _).objs.size
    rw [Heap.size_push]
    rcases List.mem_cons.mp hb with e | e
    · exact e ▸ Nat.lt_succ_self _
    · exact List.mem_singleton.mp e ▸ Nat.lt_succ_of_lt la
  · obtain ⟨t, rfl⟩ := is_
    obtain ⟨b1, b2⟩ := argBest_gt (fun i => ns.getD i 0) (es.size - 1)
    refine ⟨.int _, H, I.kept (t' := tk) fun b u g => keep b u (fun m => ?_) (Heap.get?_push_of_some _ g), ⟨t, rfl⟩, q _ ?_ fun y hy => ?_⟩
    · rw [List.mem_singleton.mp m] at g
      exact absurd (Heap.lt_size g) (Nat.lt_irrefl _)
    · have lb : argBest (fun i j => decide (ns.getD i 0 > ns.getD j 0)) (es.size - 1) ≤ es.size - 1 := b1
      exact PySem.getD_mem (by omega)
    · obtain ⟨j, lj, e⟩ := List.mem_iff_getElem.mp hy
      have top : ns.getD j 0 ≤ ns.getD (argBest (fun i j => decide (ns.getD i 0 > ns.getD j 0)) (es.size - 1)) 0 := b2 j (by omega)
      have g : ns.getD j 0 = y := by rw [List.getD_eq_getElem?_getD, List.getElem?_eq_getElem lj, ← e]; rfl
      rw [g] at top
      exact top
end
end Pot

namespace Pot
open PySem PySem.Spec PyProof.Rows L2
open Sem (wp)
/-! ### zip of a list and a tuple of one length -/
def ItM (K : PySem.W.Frag) (a b : Addr) : It :=
  ⟨fun i H => ∃ (xs ys : List V) (x y : V), SqL K H a xs ∧ SqT K H b ys ∧ xs[i]? = some x ∧ ys[i]? = some y,
   fun i H v H2 => ∃ T x y, v = .ref T ∧ H T = none ∧ H2 = upd H T (.tup [x, y]) ∧ (∀ xs, SqL K H a xs → xs[i]? = some x) ∧ ∀ ys, SqT K H b ys → ys[i]? = some y,
   fun i H => ∃ xs ys : List V, SqL K H a xs ∧ SqT K H b ys ∧ xs.length ≤ i ∧ ys.length ≤ i⟩
theorem drawsEndM {prog : Program} {w : World} {A : Around} (hh : A.handled = none) (it t : Addr) (items : Array Value) (i : Nat) (hi : items[i]? = none) :
    Draws prog w A it [it, t] i (fun _ _ => False) (fun j h => j = i ∧ h.IsListIter it t j ∧ h.IsList t items) where
  live := fun _ _ st => let ⟨o, ho, _⟩ := st.2.1; ⟨o, ho⟩
  frame := fun _ _ _ st hk => ⟨st.1, st.2.1.at fun o e => hk it (by simp) o e, st.2.2.at fun o e => hk t (by simp) o e⟩
  item := fun j _ _ _ hj st _ => absurd st.1 (Nat.ne_of_lt hj)
  done := fun s Q E st hE => wpAny_nextOf_list_end hh st.2.1 st.2.2 hi hE
theorem drawsEndT {prog : Program} {w : World} {A : Around} (hh : A.handled = none) (it t : Addr) (items : Array Value) (i : Nat) (hi : items[i]? = none) :
    Draws prog w A it [it, t] i (fun _ _ => False) (fun j h => j = i ∧ h.IsTupleIter it t j ∧ h.IsTuple t items) where
  live := fun _ _ st => let ⟨o, ho, _⟩ := st.2.1; ⟨o, ho⟩
  frame := fun _ _ _ st hk => ⟨st.1, st.2.1.at fun o e => hk it (by simp) o e, st.2.2.at fun o e => hk t (by simp) o e⟩
  item := fun j _ _ _ hj st _ => absurd st.1 (Nat.ne_of_lt hj)
  done := fun s Q E st hE => wpAny_nextOf_tuple_end hh st.2.1 st.2.2 hi hE
theorem turn_zM {P : Program} {w : World} {K : PySem.W.Frag} {elts : List Expr} {kk : Nat} {tpos : Pos} {a b z TI TO i1 i2 : Addr} (D : ZipSep2 z TI TO i1 i2 [i1, a] [i2, b]) (n1 : a ≠ i1) (n2 : b ≠ i2) :
    Turn P w K (.Tuple elts kk tpos) (ItM K a b) [z, TI, TO, i1, i2] z (fun i h => IsZip h z TI TO .none ∧ IsTupOf2 h TI (.ref i1) (.ref i2) ∧ (∃ x y, IsTupOf2 h TO x y) ∧ h.IsListIter i1 a i ∧ h.IsTupleIter i2 b i) where
  mem := by simp
  obj := fun i h st m hm => by
    obtain ⟨hz, hTI, ⟨x, y, hTO⟩, ⟨o1, e1, _, d1⟩, ⟨o2, e2, _, d2⟩⟩ := st
    simp only [List.mem_cons, List.not_mem_nil, or_false] at hm
    rcases hm with e | e | e | e | e
    · subst e; exact ⟨_, hz, fun v q => nomatch q⟩
    · subst e; exact ⟨_, hTI, fun v q => nomatch q⟩
    · subst e; exact ⟨_, hTO, fun v q => nomatch q⟩
    · subst e; exact ⟨o1, e1, fun v q => by rw [d1] at q; cases q⟩
    · subst e; exact ⟨o2, e2, fun v q => by rw [d2] at q; cases q⟩
  keep := fun i h h2 st k => by
    obtain ⟨hz, hTI, ⟨x, y, hTO⟩, g1, g2⟩ := st
    exact ⟨k z (by simp) _ hz, k TI (by simp) _ hTI, ⟨x, y, k TO (by simp) _ hTO⟩, g1.at fun o q => k i1 (by simp) o q, g2.at fun o q => k i2 (by simp) o q⟩
  item := by
    intro X q1 q2 q3 hc i pins s σ H E I hf st hg; subst q1 q2 q3
    obtain ⟨hz, hTI, ⟨x0, y0, hTO⟩, g1, g2⟩ := st
    obtain ⟨xs, ys, x, y, hqa, hqb, hx, hy⟩ := hg
    obtain ⟨its1, vs1, p1, _⟩ := I.list hqa
    obtain ⟨its2, vs2, p2, _⟩ := I.tuple hqb
    obtain ⟨w1, hw1, r1⟩ := vs1.get hx
    obtain ⟨w2, hw2, r2⟩ := vs2.get hy
    have at1 : its1.toArray[i]? = some w1 := by simpa using hw1
    have at2 : its2.toArray[i]? = some w2 := by simpa using hw2
    have l1 : i < its1.toArray.size := (Array.getElem?_eq_some_iff.mp at1).1
    have l2 : i < its2.toArray.size := (Array.getElem?_eq_some_iff.mp at2).1
    have hh := I.ok.hd hc
    have G := GoesN.zip2 (elts := elts) (x1 := kk) (pos := tpos) D (Draws.list (prog := X.prog) (w := X.w) (A := X.A.in1) hh i1 a n1 its1.toArray) (Draws.tuple (prog := X.prog) (w := X.w) (A := X.A.in1) hh i2 b n2 its2.toArray)
    refine G.goes i s _ _ (by omega) ⟨hz, hTI, ⟨x0, y0, hTO⟩, ⟨g1, p1.isList⟩, ⟨g2, p2⟩⟩ fun v h2 tk hY st2 hk _ => ?_
    obtain ⟨T, t1, t2, rfl, hn, e1, e2, hT⟩ := hY
    cases Option.some.inj (e1.symm.trans at1)
    cases Option.some.inj (e2.symm.trans at2)
    have new : ObjOk X.prog X.w (upd H T (.tup [x, y])) h2 T (.tup [x, y]) := ⟨by show 2 ≤ sizeLine; decide, [w1, w2], .cons r1 (.cons r2 .nil), hT⟩
    have I1 : Inv X pins σ (upd H T (.tup [x, y])) { s with heap := h2, toks := tk } := I.turnedNew (ch := [z, TI, TO, i1, i2]) (fun m ob hm q => hk m ob (fun e => hm (by simp only [List.mem_cons, List.not_mem_nil, or_false] at e ⊢; rcases e with e | e | e | e <;> simp [e])) q) hf hn new
    refine ⟨.ref T, _, I1, rfl, ⟨T, x, y, rfl, I.hok.fresh hn, rfl, fun l hl => by rw [I.list_inj hl hqa]; exact hx, fun l hl => by rw [I.tuple_inj hl hqb]; exact hy⟩, ⟨st2.1, st2.2.1, st2.2.2.1, st2.2.2.2.1.1, st2.2.2.2.2.1⟩, fun m hm => ?_⟩
    have hm0 := (hf m hm).1
    have live : ∃ o, s.heap.get? m = some o := by
      obtain ⟨o1, f1, _⟩ := g1
      obtain ⟨o2, f2, _⟩ := g2
      simp only [List.mem_cons, List.not_mem_nil, or_false] at hm
      rcases hm with e | e | e | e | e
      · subst e; exact ⟨_, hz⟩
      · subst e; exact ⟨_, hTI⟩
      · subst e; exact ⟨_, hTO⟩
      · subst e; exact ⟨_, f1⟩
      · subst e; exact ⟨_, f2⟩
    obtain ⟨o, ho⟩ := live
    rw [upd_ne (Nat.ne_of_lt (Nat.lt_of_lt_of_le (Heap.lt_size ho) hn))]; exact hm0
  done := by
    intro X q1 q2 q3 hc i pins s σ H E I hf st hg; subst q1 q2 q3
    obtain ⟨hz, hTI, ⟨x0, y0, hTO⟩, g1, g2⟩ := st
    obtain ⟨xs, ys, hqa, hqb, hx, hy⟩ := hg
    obtain ⟨its1, vs1, p1, _⟩ := I.list hqa
    obtain ⟨its2, vs2, p2, _⟩ := I.tuple hqb
    have m1 := vs1.length
    have m2 := vs2.length
    have hh := I.ok.hd hc
    have G := GoesN.zip2 (elts := elts) (x1 := kk) (pos := tpos) D (drawsEndM (prog := X.prog) (w := X.w) (A := X.A.in1) hh i1 a its1.toArray i (by simp; omega)) (drawsEndT (prog := X.prog) (w := X.w) (A := X.A.in1) hh i2 b its2.toArray i (by simp; omega))
    rw [Nat.min_self] at G
    exact G.stops s _ _ ⟨hz, hTI, ⟨x0, y0, hTO⟩, ⟨rfl, g1, p1.isList⟩, ⟨rfl, g2, p2⟩⟩ fun h2 tk hk _ => inv_ch (ch := [z, TI, TO, i1, i2]) I (fun m o hm q => hk m o (fun e => hm (by simp only [List.mem_cons, List.not_mem_nil, or_false] at e ⊢; rcases e with e | e | e | e <;> simp [e])) q) hf
  self := fun _ _ _ _ _ st fin => wpAny_pyIter_zip st.1 fin
def iZipM (K : PySem.W.Frag) (ta : TA) : TI := fun σ H R => ta σ H fun vs H1 => ∃ a b xs ys, vs = [.ref a, .ref b] ∧ SqL K H1 a xs ∧ SqT K H1 b ys ∧ R (ItM K a b) H1
theorem pi_zipM {X : Cx} {e e2 : Expr} {ta : TA} {p pos tpos : Pos} {elts : List Expr} {kk : Nat} (hg : Gl X "zip") (hm : X.mg "zip" = none) (ha : PA X [e, e2] ta)
    (hs : starEach [e, e2] X.env = (false, eval e X.env) :: starEach [e2] X.env := by rfl) (hpl : (backTo pos (starEach [e2] X.env)).any (·.1) = false := by rfl) :
    PI X (.Tuple elts kk tpos) (.Call (.Name "zip" p) [e, e2] [] pos) (iZipM X.K ta) := by
  refine ⟨fun pins s σ H R I hi => ?_⟩
  refine Call_ (ld_blt I hg hm PyProof.Rows.boot_zip (PyProof.Rows.callWith_type1 (thn (ha.run pos pins s σ H _ I hi) fun us s1 ⟨vs, H1, I1, r1, q1⟩ => ?_) hs hpl))
  obtain ⟨a, b, xs, ys, ex, qa, qb, q⟩ := q1
  subst ex
  cases r1 with
  | cons ra rr =>
    cases rr with
    | cons rb rr =>
      cases rr; cases ra; cases rb
      obtain ⟨its1, _, p1, _⟩ := I1.list qa
      obtain ⟨its2, _, p2, _⟩ := I1.tuple qb
      have p2l : b < s1.heap.objs.size := by
        obtain ⟨o, e, _⟩ := p2
        exact Heap.lt_size e
      refine zip_begins2 (begins_list a its1.toArray) (begins_tuple b its2.toArray) p1.isList p2 fun h2 hz hTI hTO f1 f2 hsz hk => wpAny_pyIter_zip hz ?_
      refine ⟨s1.heap.objs.size + 4, [s1.heap.objs.size + 4, s1.heap.objs.size + 2, s1.heap.objs.size + 3, s1.heap.objs.size, s1.heap.objs.size + 1], _, _, H1, rfl, I1.kept (t' := s1.toks) hk, turn_zM (zip_sep2 (N := s1.heap.objs.size) (fp1 := [a]) (fp2 := [b]) ?_ ?_) ?_ ?_, ⟨hz, hTI, ⟨_, _, hTO⟩, ⟨_, f1, rfl, rfl⟩, ⟨_, f2, rfl, rfl⟩⟩, fun m hm => ?_, q⟩
      · exact fun m hm => by rw [List.mem_singleton.mp hm]; exact p1.lt
      · exact fun m hm => by rw [List.mem_singleton.mp hm]; exact p2l
      · exact Nat.ne_of_lt p1.lt
      · exact Nat.ne_of_lt (Nat.lt_of_lt_of_le p2l (Nat.le_add_right _ _))
      · have hge : s1.heap.objs.size ≤ m := by
          simp only [List.mem_cons, List.not_mem_nil, or_false] at hm
          rcases hm with e | e | e | e | e <;> (rw [e]; first | exact Nat.le_refl _ | exact Nat.le_add_right _ _)
        exact I1.fpOk hge (I1.hok.fresh hge)
theorem ki_zipM {X : Cx} {K : PySem.W.Frag} {e e2 : Expr} {ta : TA} {p pos tpos : Pos} {elts : List Expr} {kk : Nat} (hg : Gl X "zip") (hm : X.mg "zip" = none) (ha : PA X [e, e2] ta)
    (hs : starEach [e, e2] X.env = (false, eval e X.env) :: starEach [e2] X.env := by rfl) (hpl : (backTo pos (starEach [e2] X.env)).any (·.1) = false := by rfl) (h : X.K = K := by rfl) :
    PI X (.Tuple elts kk tpos) (.Call (.Name "zip" p) [e, e2] [] pos) (iZipM K ta) := h ▸ pi_zipM hg hm ha hs hpl
def YM (f g : Nat → Option V) : Nat → Hp → V → Hp → Prop := fun i H v H2 => ∃ T x y, v = .ref T ∧ H T = none ∧ H2 = upd H T (.tup [x, y]) ∧ f i = some x ∧ g i = some y
theorem walk_zM {K : PySem.W.Frag} {a b : Addr} {xs ys : List V} (h1 : ys.length = xs.length) : Walk (ItM K a b) xs.length (fun H => SqL K H a xs ∧ SqT K H b ys) (YM (fun i => xs[i]?) (fun i => ys[i]?)) := by
  refine ⟨fun i _ hi hs => ⟨xs, ys, xs[i], ys[i]'(by omega), hs.1, hs.2, by simp [hi], by simp [show i < ys.length by omega]⟩, fun _ hs => ⟨xs, ys, hs.1, hs.2, by omega, by omega⟩, fun i H v H2 _ hs y => ?_⟩
  obtain ⟨T, x, y, e1, e2, e3, e4, e5⟩ := y
  exact ⟨T, x, y, e1, e2, e3, e4 xs hs.1, e5 ys hs.2⟩
end Pot

namespace Pot
open PySem PySem.Spec PyProof.Rows L2
/-! ### calls by names alone -/
section
variable {X : Cx} {CX : CXT} {k : Nat} {f : Addr} {fd : FuncData} {ps ks : List Str} {sp : Sp} {E : XK} {x : Str} {p pos : Pos} {kws : List Keyword} {tk : TA} {g : List Value → List Value → List Value} {gV : List V → List V → List V}
theorem pe_callK0 (F : FnOk X.prog X.w X.K X.mg X.base CX k f fd ps sp) (hr : Room k X.A) (hg : Gl X x) (hm : X.mg x = some (.ref f)) (hk : PySem.W.keepIn X.K (.ref f) = true) (hb : KBinds X.K fd ps ks g gV) (hx : Passes CX X E)
    (hkw : PK X kws tk) (hall : (backToKw pos (keywordEach kws X.env)).all (·.1.isSome) = true := by rfl) (hks : (backToKw pos (keywordEach kws X.env)).filterMap (·.1) = ks := by rfl)
    (hdb : (x == ("__debug__" : Str)) = false := by decide)
    (hpl : ((backTo pos (starEach [] X.env)).any (·.1) || (backToKw pos (keywordEach kws X.env)).any (·.1.isNone)) = false := by rfl) :
    PE X (.Call (.Name x p) [] kws pos) (tCallK sp gV E tNil tk) := by
  refine ⟨fun pins s σ H Q I h => ?_⟩
  refine wpAny_Call_Name_kw (ld_glob I hg hm ?_ hdb)
  refine PySem.W.callWith_KW0 (h₀ := X.base) I.ok.mod.kin hk hall (thn (hkw.run pos pins s σ H _ I h) fun ws s2 ⟨zs, H2, I2, rz, q2⟩ => ⟨I2.kIn, ?_⟩) hpl
  rw [hks]
  exact run_fnk F hr hb hx I2 .nil rz q2
end
def ClK (P : Program) (w : World) (K : PySem.W.Frag) (mg : Str → Option Value) (base : Heap) (k : Nat) (x : Str) (ks : List Str) (gV : List V → List V → List V) (sp : Sp) : Prop :=
  ∃ (f : Addr) (fd : FuncData) (ps : List Str) (g : List Value → List Value → List Value), FnOk P w K mg base CX0 k f fd ps sp ∧ mg x = some (.ref f) ∧ PySem.W.keepIn K (.ref f) = true ∧ KBinds K fd ps ks g gV
theorem pe_ck {X : Cx} {k j : Nat} {x : Str} {ks : List Str} {gV : List V → List V → List V} {sp : Sp} {kws : List Keyword} {t : TA} {p pos : Pos} (c : ClK X.prog X.w X.K X.mg X.base k x ks gV sp) (hr : Room j X.A) (hk : k ≤ j) (hg : Gl X x) (ha : PK X kws t)
    (hall : (backToKw pos (keywordEach kws X.env)).all (·.1.isSome) = true := by rfl) (hks : (backToKw pos (keywordEach kws X.env)).filterMap (·.1) = ks := by rfl) (hdb : (x == ("__debug__" : Str)) = false := by decide)
    (hpl : ((backTo pos (starEach [] X.env)).any (·.1) || (backToKw pos (keywordEach kws X.env)).any (·.1.isNone)) = false := by rfl) : PE X (.Call (.Name x p) [] kws pos) (tCallK sp gV E0 tNil t) := by
  obtain ⟨f, fd, ps, g, G, hm, kp, b⟩ := c
  exact pe_callK0 G (hr.mono hk) hg hm kp b pass0 ha hall hks hdb hpl
/-- three, handed in from the last to the first -/
def rev3 {α : Type} : List α → List α → List α
  | [], [a, b, c] => [c, b, a]
  | _, _ => []
theorem kb_rev3 {K : PySem.W.Frag} {x qual : Str} {st : Stmt} {f : Addr} {fd : FuncData} {k1 k2 k3 : Str} (F : Fun K x qual st f fd)
    (h : ∀ (kV doc pm : Value) (an : Option Addr) (cdv ct a b c : Value), bindArgs (PySem.W.fnOf x qual (defArgs st) (defBody st) (defScope st) .none kV doc pm an cdv ct) ⟨[], [(k3, a), (k2, b), (k1, c)]⟩ = pure [(k1, c), (k2, b), (k3, a)]) : KBinds K fd [k1, k2, k3] [k3, k2, k1] rev3 rev3 := by
  obtain ⟨oc, od, kV, doc, pm, an, cdv, ct, osl, rfl, lk, hcd⟩ := F.ex
  refine ⟨fun s us ws _ hl => ?_, fun {vs us zs ws} r rz => ?_⟩
  · match us, ws, hl with
    | [], [a, b, c], _ => exact .of_eq (h kV doc pm an cdv ct a b c)
    | [], [], hl => cases hl
    | [], [_], hl => cases hl
    | [], [_, _], hl => cases hl
    | [], _ :: _ :: _ :: _ :: _, hl => cases hl
    | _ :: _, _, hl => cases hl
  · cases r with
    | nil =>
      cases rz with
      | nil => exact .nil
      | cons a rz =>
        cases rz with
        | nil => exact .nil
        | cons b rz =>
          cases rz with
          | nil => exact .nil
          | cons c rz =>
            cases rz with
            | nil => exact .cons c (.cons b (.cons a .nil))
            | cons _ _ => exact .nil
    | cons _ _ => exact .nil
/-- four, from the last to the first, of a def with defaults -/
def rev4 {α : Type} : List α → List α → List α
  | [], [a, b, c, d] => [d, c, b, a]
  | _, _ => []
theorem kb_rev4D {K : PySem.W.Frag} {x : Str} {st : Stmt} {dvs : List V} {f : Addr} {fd : FuncData} {k1 k2 k3 k4 : Str} (F : FunV K x st dvs f fd) (hd : dvs ≠ [])
    (h : ∀ (T : Addr) (kV doc pm : Value) (an : Option Addr) (cdv ct a b c d : Value) (its : List Value), its.length = dvs.length → ∃ k, bindArgs (PySem.W.fnOf x x (defArgs st) (defBody st) (defScope st) (.ref T) kV doc pm an cdv ct) ⟨[], [(k4, a), (k3, b), (k2, c), (k1, d)]⟩ = seqItems? (.ref T) >>= k ∧ k (some its.toArray) = pure [(k1, d), (k2, c), (k3, b), (k4, a)]) : KBinds K fd [k1, k2, k3, k4] [k4, k3, k2, k1] rev4 rev4 := by
  obtain ⟨oc, od, dV, kV, doc, pm, an, cdv, ct, osl, rfl, lk, hcd, hD, hK⟩ := F.ex
  refine ⟨fun s us ws X hl => ?_, fun {vs us zs ws} r rz => ?_⟩
  · rcases hD with ⟨e, _⟩ | ⟨_, T, o, its, m, rfl, lT, oT, rT⟩
    · exact absurd e hd
    · match us, ws, hl with
      | [], [a, b, c, d], _ =>
        obtain ⟨k, e1, e2⟩ := h T kV doc pm an cdv ct a b c d its rT.length.symm
        refine BindsTo.of_looks fun M => ?_
        show PySem.W.Looks M s.heap (bindArgs _ ⟨[], [(k4, a), (k3, b), (k2, c), (k1, d)]⟩) _
        rw [e1]
        exact looks_items X lT oT (.of_pure e2)
      | [], [], hl => cases hl
      | [], [_], hl => cases hl
      | [], [_, _], hl => cases hl
      | [], [_, _, _], hl => cases hl
      | [], _ :: _ :: _ :: _ :: _ :: _, hl => cases hl
      | _ :: _, _, hl => cases hl
  · cases r with
    | nil =>
      cases rz with
      | nil => exact .nil
      | cons a rz =>
        cases rz with
        | nil => exact .nil
        | cons b rz =>
          cases rz with
          | nil => exact .nil
          | cons c rz =>
            cases rz with
            | nil => exact .nil
            | cons d rz =>
              cases rz with
              | nil => exact .cons d (.cons c (.cons b (.cons a .nil)))
              | cons _ _ => exact .nil
    | cons _ _ => exact .nil
/-! ### a list or a tuple walked -/
def iAnyS (K : PySem.W.Frag) (tl : TE) : TI := fun σ H R => iList K tl σ H R ∨ iTup K tl σ H R
theorem ki_anyS {X : Cx} {K : PySem.W.Frag} {tg l : Expr} {tl : TE} (hl : PE X l tl) (h : X.K = K := by rfl) : PI X tg l (iAnyS K tl) :=
  ⟨fun pins s σ H R I z => z.elim (fun z => (ki_list hl h).run pins s σ H R I z) (fun z => (ki_tup hl h).run pins s σ H R I z)⟩
end Pot

namespace Pot
open PySem PySem.Spec PyProof.Rows L2
/-- sum of a tuple of numbers -/
def rSumT (K : PySem.W.Frag) : List V → Hp → VK → Prop := fun vs H Q => ∃ (a : Addr) (ns : List Int), vs = [V.ref a] ∧ SqT K H a (ns.map V.int) ∧ Q (.int ns.sum) H
theorem kc_sumT {X : Cx} {K : PySem.W.Frag} (hc : X.calm = true := by rfl) (h : X.K = K := by rfl) : CallR X (.builtin "sum") (rSumT K) := by
  subst h
  intro pins s σ H vs us Q I r z
  obtain ⟨a, ns, rfl, hs, q⟩ := z
  obtain ⟨its, rv, hl, _⟩ := I.tuple hs
  rw [Vals.ref1 r]
  have hi := rv.ints
  obtain ⟨xs, hx⟩ := hi.allInts.items
  have hn : numsOf its.toArray.toList = ns := by rw [show its.toArray.toList = its from rfl, hi.numsOf]
  have hl : s.heap.IsTuple a its.toArray := hl
  rw [hx] at hl hn
  rw [nums_intItems] at hn
  refine PySem.W.ktm_sumG (I.ok.hd hc) hl fun h' tk t' hk => ?_
  rw [preSum_eq, List.take_of_length_le (by simp), hn]
  exact ⟨.int _, H, I.kept hk, ⟨_, rfl⟩, q⟩
/-- four by names: the last, the third, the first, the second -/
def mix4 {α : Type} : List α → List α → List α
  | [], [a, b, c, d] => [c, d, b, a]
  | _, _ => []
theorem kb_mix4 {K : PySem.W.Frag} {x qual : Str} {st : Stmt} {f : Addr} {fd : FuncData} {k1 k2 k3 k4 : Str} (F : Fun K x qual st f fd)
    (h : ∀ (kV doc pm : Value) (an : Option Addr) (cdv ct a b c d : Value), bindArgs (PySem.W.fnOf x qual (defArgs st) (defBody st) (defScope st) .none kV doc pm an cdv ct) ⟨[], [(k4, a), (k3, b), (k1, c), (k2, d)]⟩ = pure [(k1, c), (k2, d), (k3, b), (k4, a)]) : KBinds K fd [k1, k2, k3, k4] [k4, k3, k1, k2] mix4 mix4 := by
  obtain ⟨oc, od, kV, doc, pm, an, cdv, ct, osl, rfl, lk, hcd⟩ := F.ex
  refine ⟨fun s us ws _ hl => ?_, fun {vs us zs ws} r rz => ?_⟩
  · match us, ws, hl with
    | [], [a, b, c, d], _ => exact .of_eq (h kV doc pm an cdv ct a b c d)
    | [], [], hl => cases hl
    | [], [_], hl => cases hl
    | [], [_, _], hl => cases hl
    | [], [_, _, _], hl => cases hl
    | [], _ :: _ :: _ :: _ :: _ :: _, hl => cases hl
    | _ :: _, _, hl => cases hl
  · cases r with
    | nil =>
      cases rz with
      | nil => exact .nil
      | cons a rz =>
        cases rz with
        | nil => exact .nil
        | cons b rz =>
          cases rz with
          | nil => exact .nil
          | cons c rz =>
            cases rz with
            | nil => exact .nil
            | cons d rz =>
              cases rz with
              | nil => exact .cons c (.cons d (.cons b (.cons a .nil)))
              | cons _ _ => exact .nil
    | cons _ _ => exact .nil
end Pot

namespace Pot
open PySem PySem.Spec PyProof.Rows L2
/-! ### dict of a list of pairs, a text thrice to the letter -/
section
variable {X : Cx} {K : PySem.W.Frag}
def Dct (mg : Str → Option Value) : Prop := mg "dict" = none
def rDictP (K : PySem.W.Frag) : List V → Hp → VK → Prop := fun xs H Q => ∃ (a : Addr) (ps : List Addr) (kvs : List (Key × V)), xs = [.ref a] ∧ SqL K H a (ps.map V.ref) ∧ Paired (fun p kv => SqT K H p [kV kv.1, kv.2]) ps kvs ∧ ∀ p, H p = none → Q (.ref p) (upd H p (.dK (mergeK [] kvs)))
theorem kc_dictP (hc : X.calm = true := by rfl) (h : X.K = K := by rfl) : CallR X (.type "dict") (rDictP K) := by subst h; exact call_dictP hc
def rRepE : R2 := fun x y H Q => ∃ z : Str, x = .str z ∧ y = .int 3 ∧ z.length ≤ 100000 ∧ Q (.str (Txt.mul z 3)) H
theorem op_repE : OpR X (binaryOp .Mult) rRepE := by
  intro pins sh sg H xv yv v1 u1 Q I r1 r2 h
  obtain ⟨z, rfl, rfl, hz, q⟩ := h
  obtain ⟨tk1, rfl⟩ := r1
  obtain ⟨tk2, rfl⟩ := r2
  refine SB.mul ⟨by decide, fun _ _ hh => ?_, fun _ _ => ?_⟩ (fun tt kk => ⟨.str (Txt.mul z 3), H, I.tok _, ⟨_, rfl⟩, q⟩)
  · have : ((2 : Int) ^ 63 - 1) / 3 = 3074457345618258602 := by decide
    omega
  · have e : (3 : Int).toNat = 3 := rfl
    rw [e]
    show decide _ = false
    refine decide_eq_false ?_
    have := sizeLine_eq
    omega
end
/-! ### pairs as keys and values -/
theorem putK_new {kvs : List (Key × V)} {k : Key} {v : V} (h : ∀ p ∈ kvs, p.1 ≠ k) : putK kvs k v = kvs ++ [(k, v)] := by
  unfold putK
  rw [if_neg]
  intro z
  obtain ⟨p, hp, e⟩ := List.any_eq_true.mp z
  exact h p hp (of_decide_eq_true e)
theorem merge_nd : ∀ (more kvs : List (Key × V)), ((kvs ++ more).map (·.1)).Nodup → mergeK kvs more = kvs ++ more
  | [], kvs, _ => by show kvs = kvs ++ []; rw [List.append_nil]
  | p :: more, kvs, nd => by
    show mergeK (putK kvs p.1 p.2) more = kvs ++ p :: more
    rw [putK_new]
    · rw [merge_nd more (kvs ++ [(p.1, p.2)]) (by rw [List.append_assoc]; exact nd), List.append_assoc]; rfl
    · intro q hq e
      rw [List.map_append, List.nodup_append] at nd
      exact nd.2.2 q.1 (List.mem_map.mpr ⟨q, hq, rfl⟩) p.1 (List.mem_map.mpr ⟨p, List.mem_cons_self, rfl⟩) e
end Pot

namespace Pot
open PySem PySem.Spec PyProof.Rows L2
/-! ### calls by places and names of a def with five values, two of them with defaults -/
def mix5 {α : Type} : List α → List α → List α
  | [], [a, b, c, d, e] => [e, c, a, d, b]
  | _, _ => []
def pl32 {α : Type} : List α → List α → List α
  | [a, b, c], [d, e] => [a, b, c, d, e]
  | _, _ => []
def pl31 {α : Type} (x : α) : List α → List α → List α
  | [a, b, c], [d] => [a, b, c, x, d]
  | _, _ => []
section
variable {K : PySem.W.Frag} {x : Str} {st : Stmt} {dvs : List V} {f : Addr} {fd : FuncData} {k1 k2 k3 k4 k5 : Str}
theorem kb_mix5 (F : FunV K x st dvs f fd) (hd : dvs ≠ [])
    (h : ∀ (T : Addr) (kV doc pm : Value) (an : Option Addr) (cdv ct a b c d e : Value) (its : List Value), its.length = dvs.length → ∃ k, bindArgs (PySem.W.fnOf x x (defArgs st) (defBody st) (defScope st) (.ref T) kV doc pm an cdv ct) ⟨[], [(k3, a), (k5, b), (k2, c), (k4, d), (k1, e)]⟩ = seqItems? (.ref T) >>= k ∧ k (some its.toArray) = pure [(k1, e), (k2, c), (k3, a), (k4, d), (k5, b)]) : KBinds K fd [k1, k2, k3, k4, k5] [k3, k5, k2, k4, k1] mix5 mix5 := by
  obtain ⟨oc, od, dV, kV, doc, pm, an, cdv, ct, osl, rfl, lk, hcd, hD, hK⟩ := F.ex
  refine ⟨fun s us ws X hl => ?_, fun {vs us zs ws} r rz => ?_⟩
  · rcases hD with ⟨e, _⟩ | ⟨_, T, o, its, m, rfl, lT, oT, rT⟩
    · exact absurd e hd
    · match us, ws, hl with
      | [], [a, b, c, d, e], _ =>
        obtain ⟨k, e1, e2⟩ := h T kV doc pm an cdv ct a b c d e its rT.length.symm
        refine BindsTo.of_looks fun M => ?_
        show PySem.W.Looks M s.heap (bindArgs _ ⟨[], [(k3, a), (k5, b), (k2, c), (k4, d), (k1, e)]⟩) _
        rw [e1]
        exact looks_items X lT oT (.of_pure e2)
      | [], [], hl => cases hl
      | [], [_], hl => cases hl
      | [], [_, _], hl => cases hl
      | [], [_, _, _], hl => cases hl
      | [], [_, _, _, _], hl => cases hl
      | [], _ :: _ :: _ :: _ :: _ :: _ :: _, hl => cases hl
      | _ :: _, _, hl => cases hl
  · match r, rz with
    | .nil, .cons a (.cons b (.cons c (.cons d (.cons e .nil)))) => exact .cons e (.cons c (.cons a (.cons d (.cons b .nil))))
    | .nil, .nil => exact .nil
    | .nil, .cons _ .nil => exact .nil
    | .nil, .cons _ (.cons _ .nil) => exact .nil
    | .nil, .cons _ (.cons _ (.cons _ .nil)) => exact .nil
    | .nil, .cons _ (.cons _ (.cons _ (.cons _ .nil))) => exact .nil
    | .nil, .cons _ (.cons _ (.cons _ (.cons _ (.cons _ (.cons _ _))))) => exact .nil
    | .cons _ _, _ => exact .nil
theorem kb_pl32 (F : FunV K x st dvs f fd) (hd : dvs ≠ [])
    (h : ∀ (T : Addr) (kV doc pm : Value) (an : Option Addr) (cdv ct a b c d e : Value) (its : List Value), its.length = dvs.length → ∃ k, bindArgs (PySem.W.fnOf x x (defArgs st) (defBody st) (defScope st) (.ref T) kV doc pm an cdv ct) ⟨[a, b, c], [(k4, d), (k5, e)]⟩ = seqItems? (.ref T) >>= k ∧ k (some its.toArray) = pure [(k1, a), (k2, b), (k3, c), (k4, d), (k5, e)]) : KBinds K fd [k1, k2, k3, k4, k5] [k4, k5] pl32 pl32 := by
  obtain ⟨oc, od, dV, kV, doc, pm, an, cdv, ct, osl, rfl, lk, hcd, hD, hK⟩ := F.ex
  refine ⟨fun s us ws X hl => ?_, fun {vs us zs ws} r rz => ?_⟩
  · rcases hD with ⟨e, _⟩ | ⟨_, T, o, its, m, rfl, lT, oT, rT⟩
    · exact absurd e hd
    · match us, ws, hl with
      | [a, b, c], [d, e], _ =>
        obtain ⟨k, e1, e2⟩ := h T kV doc pm an cdv ct a b c d e its rT.length.symm
        refine BindsTo.of_looks fun M => ?_
        show PySem.W.Looks M s.heap (bindArgs _ ⟨[a, b, c], [(k4, d), (k5, e)]⟩) _
        rw [e1]
        exact looks_items X lT oT (.of_pure e2)
  · match r, rz with
    | .cons a (.cons b (.cons c .nil)), .cons d (.cons e .nil) => exact .cons a (.cons b (.cons c (.cons d (.cons e .nil))))
    | .nil, _ => exact .nil
    | .cons _ .nil, _ => exact .nil
    | .cons _ (.cons _ .nil), _ => exact .nil
    | .cons _ (.cons _ (.cons _ (.cons _ _))), _ => exact .nil
    | .cons _ (.cons _ (.cons _ .nil)), .nil => exact .nil
    | .cons _ (.cons _ (.cons _ .nil)), .cons _ .nil => exact .nil
    | .cons _ (.cons _ (.cons _ .nil)), .cons _ (.cons _ (.cons _ _)) => exact .nil
theorem kb_pl31 {d1 d2 : V} (F : FunV K x st [d1, d2] f fd)
    (h : ∀ (T : Addr) (kV doc pm : Value) (an : Option Addr) (cdv ct a b c d e1 e2 : Value), ∃ k, bindArgs (PySem.W.fnOf x x (defArgs st) (defBody st) (defScope st) (.ref T) kV doc pm an cdv ct) ⟨[a, b, c], [(k5, d)]⟩ = seqItems? (.ref T) >>= k ∧ k (some #[e1, e2]) = pure [(k1, a), (k2, b), (k3, c), (k4, e1), (k5, d)]) : ∃ g, KBinds K fd [k1, k2, k3, k4, k5] [k5] g (pl31 d1) := by
  obtain ⟨oc, od, dV, kV, doc, pm, an, cdv, ct, osl, rfl, lk, hcd, hD, hK⟩ := F.ex
  rcases hD with ⟨e, _⟩ | ⟨_, T, o, its, m, rfl, lT, oT, rT⟩
  · cases e
  · match its, rT with
    | [e1, e2], .cons r1 (.cons r2 .nil) =>
      refine ⟨pl31 e1, fun s us ws X hl => ?_, fun {vs us zs ws} r rz => ?_⟩
      · match us, ws, hl with
        | [a, b, c], [d], _ =>
          obtain ⟨k, e3, e4⟩ := h T kV doc pm an cdv ct a b c d e1 e2
          refine BindsTo.of_looks fun M => ?_
          show PySem.W.Looks M s.heap (bindArgs _ ⟨[a, b, c], [(k5, d)]⟩) _
          rw [e3]
          exact looks_items X lT oT (.of_pure e4)
      · match r, rz with
        | .cons a (.cons b (.cons c .nil)), .cons d .nil => exact .cons a (.cons b (.cons c (.cons r1 (.cons d .nil))))
        | .nil, _ => exact .nil
        | .cons _ .nil, _ => exact .nil
        | .cons _ (.cons _ .nil), _ => exact .nil
        | .cons _ (.cons _ (.cons _ (.cons _ _))), _ => exact .nil
        | .cons _ (.cons _ (.cons _ .nil)), .nil => exact .nil
        | .cons _ (.cons _ (.cons _ .nil)), .cons _ (.cons _ _) => exact .nil
end
/-- a call by places and names -/
theorem pe_ckP {X : Cx} {k j : Nat} {x : Str} {ks : List Str} {gV : List V → List V → List V} {sp : Sp} {e : Expr} {es : List Expr} {kws : List Keyword} {t tk : TA} {p pos : Pos} (c : ClK X.prog X.w X.K X.mg X.base k x ks gV sp) (hr : Room j X.A) (hk : k ≤ j) (hg : Gl X x) (ha : PA X (e :: es) t) (hkw : PK X kws tk)
    (hall : (backToKw pos (keywordEach kws X.env)).all (·.1.isSome) = true := by rfl) (hks : (backToKw pos (keywordEach kws X.env)).filterMap (·.1) = ks := by rfl) (hdb : (x == ("__debug__" : Str)) = false := by decide) (he : starEach (e :: es) X.env = (false, eval e X.env) :: starEach es X.env := by rfl)
    (hpl : ((backTo pos (starEach (e :: es) X.env)).any (·.1) || (backToKw pos (keywordEach kws X.env)).any (·.1.isNone)) = false := by rfl) : PE X (.Call (.Name x p) (e :: es) kws pos) (tCallK sp gV E0 t tk) := by
  obtain ⟨f, fd, ps, g, G, hm, kp, b⟩ := c
  exact pe_callK G (hr.mono hk) hg hm kp b pass0 ha hkw hall hks hdb he hpl
def rSortedD : List V → Hp → VK → Prop := fun xs H Q => ∃ (a : Addr) (kvs : List (Key × V)) (ks : List Str), xs = [.ref a] ∧ Rd H a (.dK kvs) ∧ kvs.map (·.1) = ks.map Sum.inr ∧ ks.length < 64 ∧
    ∀ ys p, ys.Perm ks → sortedS ys = true → H p = none → Q (.ref p) (upd H p (.lst (ys.map V.str)))
theorem kc_sortedD {X : Cx} (hc : X.calm = true := by rfl) : CallR X (.builtin "sorted") rSortedD := call_sortedD hc
end Pot

namespace Pot
open PySem PySem.Spec PyProof.Rows L2
/-! ### words of letters -/
/-- at most n letters a to z -/
def Wd (n : Nat) (z : Str) : Prop := z.length ≤ n ∧ ∀ c ∈ z.cps.toList, 97 ≤ c ∧ c ≤ 122
theorem Wd.mono {n m : Nat} {z : Str} (h : Wd n z) (k : n ≤ m) : Wd m z := ⟨Nat.le_trans h.1 k, h.2⟩
theorem wd_add {n m : Nat} {a b : Str} (h : Wd n a) (k : Wd m b) : Wd (n + m) (a ++ b) := by
  refine ⟨by rw [strLen_append]; exact Nat.add_le_add h.1 k.1, fun c hc => ?_⟩
  have e : (a ++ b).cps.toList = a.cps.toList ++ b.cps.toList := by
    show (a.cps ++ b.cps).toList = _
    simp
  rw [e] at hc
  exact (List.mem_append.mp hc).elim (h.2 c) (k.2 c)
def az : List Nat := [97, 98, 99, 100, 101, 102, 103, 104, 105, 106, 107, 108, 109, 110, 111, 112, 113, 114, 115, 116, 117, 118, 119, 120, 121, 122]
theorem az_cps : (Str.ofString "abcdefghijklmnopqrstuvwxyz").cps.toList = az := by decide +kernel
theorem az_at : ∀ k : Nat, k < 26 → atI az ((k : Nat) : Int) = some (97 + k) := by unfold az; decide
theorem az_ix {i : Int} (h0 : 0 ≤ i) (h1 : i < 26) : atI (Str.ofString "abcdefghijklmnopqrstuvwxyz").cps.toList i = some (97 + i.toNat) := by
  rw [az_cps]
  have h := az_at i.toNat (by omega)
  rw [show ((i.toNat : Nat) : Int) = i by omega] at h
  exact h
theorem wd_sign {c : Nat} (h0 : 97 ≤ c) (h1 : c ≤ 122) : Wd 1 ⟨#[c]⟩ := ⟨Nat.le_refl _, fun d hd => by
  have e : d = c := by simpa using hd
  subst e; exact ⟨h0, h1⟩⟩
theorem wd_letter {i : Int} (h0 : 0 ≤ i) (h1 : i < 26) : Wd 1 ⟨#[97 + i.toNat]⟩ := wd_sign (by omega) (by omega)
theorem wd_nil : Wd 0 Str.empty := ⟨Nat.le_refl _, fun c hc => by have : c ∈ ([] : List Nat) := hc; simp at this⟩
theorem wd_join : ∀ {ys : List Str}, (∀ y ∈ ys, Wd 1 y) → Wd ys.length (Str.join Str.empty ys)
  | [], _ => wd_nil
  | [x], h => h x List.mem_cons_self
  | x :: y :: r, h => by
    have ih := wd_join (ys := y :: r) fun z hz => h z (List.mem_cons_of_mem _ hz)
    show Wd _ (x ++ Str.empty ++ Str.join Str.empty (y :: r))
    have h1 := wd_add (wd_add (h x List.mem_cons_self) wd_nil) ih
    exact h1.mono (by simp only [List.length_cons]; omega)
theorem cut_mem {z : Str} {lo hi : Option Int} {c : Nat} (h : c ∈ (cutS z lo hi).cps.toList) : c ∈ z.cps.toList := by
  unfold cutS at h
  have h2 : c ∈ (z.cps.toList.drop (HT.sIx z.length 0 lo)).take (HT.sIx z.length z.length hi - HT.sIx z.length 0 lo) := by simpa using h
  exact List.mem_of_mem_drop (List.mem_of_mem_take h2)
theorem cut_len (z : Str) (lo hi : Option Int) : (cutS z lo hi).length ≤ HT.sIx z.length z.length hi - HT.sIx z.length 0 lo := by
  unfold cutS
  show (List.toArray _).size ≤ _
  rw [List.size_toArray]
  exact List.length_take_le ..
theorem wd_head {n k : Nat} {z : Str} (h : Wd n z) : Wd k (cutS z none (some (k : Int))) := by
  refine ⟨Nat.le_trans (cut_len z none (some (k : Int))) ?_, fun c hc => h.2 c (cut_mem hc)⟩
  rw [HT.sIx_nat]
  omega
theorem wd_tail {n k : Nat} {z : Str} (h : Wd n z) : Wd (z.length - k) (cutS z (some (k : Int)) none) := by
  refine ⟨Nat.le_trans (cut_len z (some (k : Int)) none) ?_, fun c hc => h.2 c (cut_mem hc)⟩
  rw [HT.sIx_nat, HT.sIx_none]
  omega
theorem wd_cut {n : Nat} {z : Str} {lo hi : Option Int} (h : Wd n z) : Wd n (cutS z lo hi) := by
  refine ⟨Nat.le_trans (cut_len z lo hi) ?_, fun c hc => h.2 c (cut_mem hc)⟩
  have := HT.sIx_le z.length z.length (Nat.le_refl _) hi
  have := h.1
  omega
theorem wd_small {n : Nat} {z : Str} (h : Wd n z) (k : n ≤ 1000) : z.length ≤ sizeLine := Nat.le_trans h.1 (Nat.le_trans k (by decide))
theorem wd_codes {n : Nat} {z : Str} (h : Wd n z) : ∀ x ∈ z.cps.toList, x < 1114112 := fun x hx => by have := (h.2 x hx).2; omega
section
variable {K : PySem.W.Frag}
theorem kp_seq {d c l : Addr} {H H' : Hp} {xs : List V} (k : Kp d c H H') (n1 : l ≠ d) (n2 : l ≠ c) (h : SqL K H l xs) : SqL K H' l xs := by
  rcases h with (h | ⟨o, h⟩) | h
  · exact .inl (.inl (k _ _ n1 n2 h))
  · exact .inl (.inr ⟨o, k _ _ n1 n2 h⟩)
  · exact .inr h
end
end Pot

namespace Pot
open PySem PySem.Spec PyProof.Rows L2
/-! ### the drawing state of two objects, told by what stands beside it -/
section
variable {H H' : Hp} {d c : Addr} {n m : Nat} {S : List Addr} {x : Addr} {o : HO}
theorem kp_sm (k : Kp d c H H') : Sm [d, c] H H' := fun x o e => by
  have nm := off_mem e
  rw [off_out nm] at e ⊢
  exact k x o (fun z => nm (by rw [z]; simp)) (fun z => nm (by rw [z]; simp)) e
theorem sm_kp (s : Sm [d, c] H H') : Kp d c H H' := fun x o h1 h2 e => sm_at s (by simp [h1, h2]) e
theorem sm_two (h1 : d ∈ S) (h2 : c ∈ S) (s : Sm [d, c] H H') : Sm S H H' := sm_mono (fun x hx => by
  rcases List.mem_cons.mp hx with e | e
  · rw [e]; exact h1
  · rw [List.mem_singleton.mp e]; exact h2) s
theorem sm2_at (s : Sm [d, c] H H') (h1 : x ≠ d) (h2 : x ≠ c) (h : H x = some o) : H' x = some o := sm_at s (by simp [h1, h2]) h
theorem st_free (s : Sm [d, c] H H') (B : StAt H' d c n) (h : H' x = none) : H x = none := (sm_kp s).free B h
theorem StAt.here (B : StAt H d c n) : H d ≠ none ∧ H c ≠ none := by
  obtain ⟨_, xs, t, h1, h2, _⟩ := B
  constructor
  · intro z; rw [h1] at z; cases z
  · intro z; rw [h2] at z; cases z
theorem Live.st (L : Live S H) (B : StAt H' d c n) (s : Sm [d, c] H H') : Live S H' := fun x hx e => by
  by_cases h1 : x = d
  · rw [h1] at e; exact B.here.1 e
  by_cases h2 : x = c
  · rw [h2] at e; exact B.here.2 e
  cases h : H x with
  | none => exact L x hx h
  | some o => rw [sm2_at s h1 h2 h] at e; cases e
theorem Live.two (B : StAt H d c n) : Live [d, c] H := fun x hx e => by
  rcases List.mem_cons.mp hx with z | z
  · rw [z] at e; exact B.here.1 e
  · rw [List.mem_singleton.mp z] at e; exact B.here.2 e
theorem StAt.nd (B : StAt H d c n) (h : H x = none) : x ≠ d := (B.ne1 h).symm
theorem StAt.nc (B : StAt H d c n) (h : H x = none) : x ≠ c := (B.ne2 h).symm
end
end Pot

namespace Pot
open PySem PySem.Spec PyProof.Rows L2
/-! ### str of a list or a tuple of any data -/
section
variable {X : Cx} {K : PySem.W.Frag}
def rStrA (K : PySem.W.Frag) : List V → Hp → VK → Prop := fun xs H Q => ∃ (a : Addr) (d : PyData), xs = [.ref a] ∧ Dp K H (.ref a) d ∧ fineAll.fine d ∧ d.depth ≤ 60 ∧ costAll.cost d ≤ 16777216 ∧ Q (.str d.shown) H
theorem cr_strA (gd : X.A.guards = some []) (hu : X.A.units + 64 < cLine) : CallR X (.type "str") (rStrA X.K) := by
  intro pins s σ H vs us Q I r h
  obtain ⟨a, d, rfl, dp, sh, dep, sz, q⟩ := h
  obtain ⟨u, rfl, rx⟩ := vals1 r
  have sz2 := Nat.le_trans (shown_len d sh) (by rw [sizeLine_eq]; exact sz : costAll.cost d ≤ sizeLine)
  cases rx
  obtain ⟨as, rd⟩ := Dp.reads I d (.ref a) (.ref a) dp rfl
  refine str_of_reads rd (fine_show d sh) (fun z => ?_) gd (by omega) (fun _ _ e => e) (fun h' u tk k => ⟨.str d.shown, H, I.kept k, ⟨u, rfl⟩, q⟩) sz2
  rw [dp_noDict dp] at z
  cases z
theorem kc_strA (gd : X.A.guards = some []) (hu : X.A.units + 64 < cLine) (h : X.K = K := by rfl) : CallR X (.type "str") (rStrA K) := h ▸ cr_strA gd hu
end
end Pot

namespace Pot
open PySem PySem.Spec PyProof.Rows L2
/-- a row that tells of these two -/
def mat (a : Option Str) (b : Str) (r : Wsh) : Bool := decide (some r.1 = a) && decide (r.2.1 = b)
def namD : Option Str → PyData
  | none => .none
  | some z => .str z
theorem washF_filter (a : Option Str) (b : Str) : ∀ ws : List Wsh, washF ws a b = match ws.filter (mat a b) with
    | [] => some 0
    | r :: _ => r.2.2
  | [] => rfl
  | r :: ws => by
    show (if some r.1 = a ∧ r.2.1 = b then r.2.2 else washF ws a b) = _
    rw [List.filter_cons]
    by_cases h : some r.1 = a ∧ r.2.1 = b
    · have e : mat a b r = true := by unfold mat; rw [decide_eq_true h.1, decide_eq_true h.2]; rfl
      rw [if_pos h, if_pos e]
    · have e : ¬ mat a b r = true := by
        unfold mat
        rw [Bool.and_eq_true, decide_eq_true_eq, decide_eq_true_eq]
        exact h
      rw [if_neg h, if_neg e]
      exact washF_filter a b ws
theorem str_beq (x y : Str) : (x == y) = decide (x = y) := by
  by_cases h : x = y
  · subst h; rw [decide_eq_true rfl]; exact beq_self_eq_true x
  · rw [decide_eq_false h]; exact beq_false_of_ne h
theorem eqv_mat (a : Option Str) (b : Str) (r : Wsh) : PyData.eqv (.tuple [.str r.1, .str r.2.1]) (.tuple [namD a, .str b]) = mat a b r := by
  unfold mat
  cases a with
  | none =>
    rw [decide_eq_false (by intro z; cases z)]
    rfl
  | some z =>
    show ((r.1 == z) && ((r.2.1 == b) && true)) = _
    rw [str_beq, str_beq, Bool.and_true]
    congr 1
    by_cases h : r.1 = z
    · rw [decide_eq_true h, decide_eq_true (by rw [h])]
    · rw [decide_eq_false h, decide_eq_false fun q => h (Option.some.inj q)]
section
variable {K : PySem.W.Frag} {H : Hp}
theorem nam_dp : ∀ a : Option Str, Dp K H (namV a) (namD a)
  | none => .non
  | some z => .str z
theorem dpAll_opts : ∀ l : List Wsh, DpAll K H (l.map fun r => optV r.2.2) (l.map fun r => optD r.2.2)
  | [] => .nil
  | r :: l => .cons (opt_dp r.2.2) (dpAll_opts l)
end
/-- signs that there are -/
def Sg (z : Str) : Prop := ∀ x ∈ z.cps.toList, x < 1114112
theorem strOk_len {z : Str} (h : Sg z) : PyData.strOk z = true := by
  unfold PyData.strOk
  rw [Array.all_eq_true_iff_forall_mem]
  intro x hx
  exact decide_eq_true (h x (Array.mem_toList_iff.mpr hx))
theorem shaped_two {x y : Str} (h : Sg x) (k : Sg y) : SeqAt.shaped (.tuple [.str x, .str y]) = true := by
  show (PyData.strOk x && (PyData.strOk y && true)) && decide (max 0 (max 0 0) + 1 ≤ 64) = true
  rw [strOk_len h, strOk_len k]
  rfl
theorem shaped_nam {a : Option Str} {y : Str} (h : ∀ z, a = some z → Sg z) (k : Sg y) : SeqAt.shaped (.tuple [namD a, .str y]) = true := by
  cases a with
  | none =>
    show (true && (PyData.strOk y && true)) && decide (max 0 (max 0 0) + 1 ≤ 64) = true
    rw [strOk_len k]
    rfl
  | some z => exact shaped_two (h z rfl) k
theorem shaped_opts (l : List Wsh) : SeqAt.shaped (.list (l.map fun r => optD r.2.2)) = true := by
  have h1 : ∀ l : List Wsh, PyData.canLayAll0 (l.map fun r => optD r.2.2) = true := by
    intro l
    induction l with
    | nil => rfl
    | cons r l ih =>
      show (PyData.canLay0 (optD r.2.2) && PyData.canLayAll0 (l.map fun r => optD r.2.2)) = true
      rw [ih]
      cases r.2.2 <;> rfl
  have h2 : PyData.depthAll (l.map fun r => optD r.2.2) ≤ 0 := depthAll_map fun r _ => by rw [depth_opt]; exact Nat.le_refl _
  show (PyData.canLayAll0 (l.map fun r => optD r.2.2) && decide (PyData.depthAll (l.map fun r => optD r.2.2) + 1 ≤ 64)) = true
  rw [h1, decide_eq_true (by omega)]
  rfl
end Pot

namespace Pot
open PySem PySem.Spec PyProof.Rows L2
/-! ### a box of three numbers: the second below 2 ^ 62, the last at most n -/
def Bp (H : Hp) (b : Addr) (n : Nat) : Prop := ∃ x y z : Int, H b = some (.lst [.int x, .int y, .int z]) ∧ 0 ≤ z ∧ z ≤ n ∧ 0 ≤ y ∧ y < 2 ^ 62
section
variable {H H' : Hp} {b p : Addr} {n m : Nat} {o : HO}
theorem Bp.bx (B : Bp H b n) : Bx H b := by
  obtain ⟨x, y, z, h, _⟩ := B
  exact ⟨x, y, z, h⟩
theorem Bp.same (B : Bp H b n) (s : Same H H') : Bp H' b n := by
  obtain ⟨x, y, z, h, h2⟩ := B
  exact ⟨x, y, z, s _ _ h, h2⟩
theorem Bp.put (B : Bp H b n) (h : H p = none) : Bp (upd H p o) b n := B.same (same_upd h)
theorem Bp.wr (B : Bp H b n) (h : p ≠ b) : Bp (upd H p o) b n := by
  obtain ⟨x, y, z, e, h2⟩ := B
  exact ⟨x, y, z, by rw [upd_ne h.symm]; exact e, h2⟩
theorem Bp.mono (B : Bp H b n) (h : n ≤ m) : Bp H b m := by
  obtain ⟨x, y, z, e, h1, h2, h3⟩ := B
  exact ⟨x, y, z, e, h1, by omega, h3⟩
theorem Bp.ne (B : Bp H b n) (h : H p = none) : p ≠ b := B.bx.ne h
theorem Live.pw (B : Bp H b n) : Live [b] H := Live.one B.bx
end
end Pot

namespace Pot
open PySem PySem.Spec PyProof.Rows L2
/-! ### the names of cluster C: unlike each other -/
def Nm (z : Str) : Prop := Wd 8 z ∧ 0 < z.length
def ltN (x : Int) : Str := ⟨#[97 + x.toNat]⟩
theorem str_app (a b : Str) : (a ++ b).cps.toList = a.cps.toList ++ b.cps.toList := by
  show (a.cps ++ b.cps).toList = _
  simp
theorem str_eq {a b : Str} (h : a = b) : a.cps.toList = b.cps.toList := by rw [h]
theorem ltN_list (x : Int) : (ltN x).cps.toList = [97 + x.toNat] := rfl
theorem ltN_len (x : Int) : (ltN x).length = 1 := rfl
def vlN (fi stp : Int) (i : Nat) : Int := (fi + stp * (0 + (i : Int))) % 676
def bsN (hd tl : Str) (fi stp : Int) (i : Nat) : Str := hd ++ ltN (vlN fi stp i / 26) ++ ltN (vlN fi stp i % 26) ++ tl
def nmN (hd tl : Str) (fi stp lo : Int) (i : Nat) : Str := if lo = 1 ∧ i % 2 = 1 then bsN hd tl fi stp (i - 1) ++ ltN ((fi + (0 + (i : Int))) % 26) else bsN hd tl fi stp i
def StpN (s : Int) : Prop := s = 1 ∨ s = 3 ∨ s = 5 ∨ s = 7 ∨ s = 25 ∨ s = 675
theorem vlN_pos (fi stp : Int) (i : Nat) : 0 ≤ vlN fi stp i ∧ vlN fi stp i < 676 := ⟨Int.emod_nonneg _ (by decide), Int.emod_lt_of_pos _ (by decide)⟩
theorem bsN_len (hd tl : Str) (fi stp : Int) (i : Nat) : (bsN hd tl fi stp i).length = hd.length + 2 + tl.length := by
  unfold bsN
  rw [strLen_append, strLen_append, strLen_append, ltN_len, ltN_len]
theorem bsN_wd {hd tl : Str} (h1 : Wd 3 hd) (h2 : Wd 2 tl) (fi stp : Int) (i : Nat) : Wd 7 (bsN hd tl fi stp i) ∧ 0 < (bsN hd tl fi stp i).length := by
  have := vlN_pos fi stp i
  refine ⟨wd_add (wd_add (wd_add h1 (wd_letter (by omega) (by omega))) (wd_letter (by omega) (by omega))) h2, ?_⟩
  rw [bsN_len]; omega
theorem nmN_nm {hd tl : Str} (h1 : Wd 3 hd) (h2 : Wd 2 tl) (fi stp lo : Int) (i : Nat) : Nm (nmN hd tl fi stp lo i) := by
  unfold nmN
  have l0 : 0 ≤ (fi + (0 + (i : Int))) % 26 := Int.emod_nonneg _ (by decide)
  have l1 : (fi + (0 + (i : Int))) % 26 < 26 := Int.emod_lt_of_pos _ (by decide)
  by_cases h : lo = 1 ∧ i % 2 = 1
  · rw [if_pos h]
    have b := bsN_wd h1 h2 fi stp (i - 1)
    exact ⟨wd_add b.1 (wd_letter l0 l1), by rw [strLen_append]; have := b.2; omega⟩
  · rw [if_neg h]
    have b := bsN_wd h1 h2 fi stp i
    exact ⟨b.1.mono (by decide), b.2⟩
theorem stp_inj {fi stp : Int} (s : StpN stp) {i j : Nat} (hi : i < 12) (hj : j < 12) (h : vlN fi stp i = vlN fi stp j) : i = j := by
  unfold vlN at h
  rcases s with rfl | rfl | rfl | rfl | rfl | rfl <;> omega
theorem stp_inj26 {fi stp : Int} (s : StpN stp) {i j : Nat} (hi : i < 12) (hj : j < 12) (h : (fi + stp * (0 + (i : Int))) % 26 = (fi + stp * (0 + (j : Int))) % 26) : i = j := by
  rcases s with rfl | rfl | rfl | rfl | rfl | rfl <;> omega
theorem bsN_inj {hd tl : Str} {fi stp : Int} (s : StpN stp) {i j : Nat} (hi : i < 12) (hj : j < 12) (h : bsN hd tl fi stp i = bsN hd tl fi stp j) : i = j := by
  have h2 := str_eq h
  unfold bsN at h2
  simp only [str_app, ltN_list, List.append_assoc, List.append_cancel_left_eq, List.cons_append, List.nil_append, List.cons.injEq] at h2
  have a := vlN_pos fi stp i
  have b := vlN_pos fi stp j
  exact stp_inj (fi := fi) s hi hj (by omega)
theorem nmN_inj {hd tl : Str} {fi stp lo : Int} (s : StpN stp) {i j : Nat} (hi : i < 12) (hj : j < 12) (h : nmN hd tl fi stp lo i = nmN hd tl fi stp lo j) : i = j := by
  unfold nmN at h
  by_cases c1 : lo = 1 ∧ i % 2 = 1 <;> by_cases c2 : lo = 1 ∧ j % 2 = 1
  · rw [if_pos c1, if_pos c2] at h
    have h2 := str_eq h
    rw [str_app, str_app] at h2
    have l : (bsN hd tl fi stp (i - 1)).cps.toList.length = (bsN hd tl fi stp (j - 1)).cps.toList.length := by
      have e1 := bsN_len hd tl fi stp (i - 1)
      have e2 := bsN_len hd tl fi stp (j - 1)
      rw [Array.length_toList, Array.length_toList]
      exact e1.trans e2.symm
    have h3 := (List.append_inj h2 l).1
    have h4 : bsN hd tl fi stp (i - 1) = bsN hd tl fi stp (j - 1) := by
      cases e1 : bsN hd tl fi stp (i - 1) with
      | mk x => cases e2 : bsN hd tl fi stp (j - 1) with
        | mk y =>
          rw [e1, e2] at h3
          exact congrArg Str.mk (Array.toList_inj.mp h3)
    have := bsN_inj s (i := i - 1) (j := j - 1) (by omega) (by omega) h4
    omega
  · rw [if_pos c1, if_neg c2] at h
    have := congrArg Str.length h
    rw [strLen_append, bsN_len, bsN_len, ltN_len] at this
    omega
  · rw [if_neg c1, if_pos c2] at h
    have := congrArg Str.length h
    rw [strLen_append, bsN_len, bsN_len, ltN_len] at this
    omega
  · rw [if_neg c1, if_neg c2] at h
    exact bsN_inj s hi hj h
theorem nodup_map_range {f : Nat → Str} {m : Nat} (h : ∀ i j, i < m → j < m → f i = f j → i = j) : ((List.range m).map f).Nodup := by
  rw [List.Nodup, List.pairwise_map]
  refine List.Pairwise.imp_of_mem (fun {a b} ha hb hab e => ?_) (List.nodup_range (n := m))
  exact hab (h a b (List.mem_range.mp ha) (List.mem_range.mp hb) e)
theorem nmN_nodup {hd tl : Str} {fi stp lo : Int} (s : StpN stp) {m : Nat} (hm : m ≤ 12) : ((List.range m).map (nmN hd tl fi stp lo)).Nodup :=
  nodup_map_range fun i j hi hj h => nmN_inj s (by omega) (by omega) h
theorem letN_nodup {fi stp : Int} (s : StpN stp) {m : Nat} (hm : m ≤ 12) : ((List.range m).map fun i : Nat => ltN ((fi + stp * (0 + (i : Int))) % 26)).Nodup :=
  nodup_map_range fun i j hi hj h => by
    have h2 := str_eq h
    rw [ltN_list, ltN_list] at h2
    have h3 := (List.cons.inj h2).1
    have a0 : 0 ≤ (fi + stp * (0 + (i : Int))) % 26 := Int.emod_nonneg _ (by decide)
    have b0 : 0 ≤ (fi + stp * (0 + (j : Int))) % 26 := Int.emod_nonneg _ (by decide)
    exact stp_inj26 (fi := fi) s (by omega) (by omega) (by omega)
def wordsN : List Str := ["never", "at", "undo", "slots", "done", "wash", "pot", "kind", "fill", "gather", "team", "colour"]
theorem words_eq : Txt.split (Str.ofString "never at undo slots done wash pot kind fill gather team colour") (Str.ofString " ") = wordsN := by decide +kernel
theorem words_nm : ∀ z ∈ wordsN, Nm z := by
  unfold Nm Wd wordsN
  decide +kernel
theorem words_nodup : ∀ j : Nat, j < 12 → ((wordsN ++ wordsN).drop j |>.take 12).Nodup := by
  unfold wordsN
  decide +kernel
theorem words_cut {j m : Nat} (hj : j < 12) (hm : m ≤ 12) : ((wordsN ++ wordsN).drop j |>.take m).Nodup ∧ ((wordsN ++ wordsN).drop j |>.take m).length = m ∧ ∀ z ∈ ((wordsN ++ wordsN).drop j |>.take m), Nm z := by
  refine ⟨?_, ?_, fun z hz => ?_⟩
  · have := words_nodup j hj
    have e : ((wordsN ++ wordsN).drop j |>.take m) = (((wordsN ++ wordsN).drop j |>.take 12).take m) := by rw [List.take_take, Nat.min_eq_left hm]
    rw [e]
    exact this.sublist (List.take_sublist _ _)
  · rw [List.length_take, List.length_drop, List.length_append]
    show min m (12 + 12 - j) = m
    omega
  · have := List.mem_of_mem_drop (List.mem_of_mem_take hz)
    exact (List.mem_append.mp this).elim (words_nm z) (words_nm z)
theorem wd1_sum : ∀ {l : List Str}, (∀ y ∈ l, Wd 1 y) → (l.map (·.length)).sum ≤ l.length
  | [], _ => Nat.le_refl _
  | a :: r, h => by
    have h1 := (h a List.mem_cons_self).1
    have h2 := wd1_sum (l := r) fun y hy => h y (List.mem_cons_of_mem _ hy)
    simp only [List.map_cons, List.sum_cons, List.length_cons]
    omega
end Pot

namespace Pot
open PySem PySem.Spec PyProof.Rows L2
/-! ### the palettes of cluster C -/
structure PalC (cs : List Col) (ws : List Wsh) : Prop where
  ok : PalOk cs ws
  ne : 0 < cs.length
  le : cs.length ≤ 12
  ch : ∀ c ∈ cs, 1 ≤ c.2.1 ∧ c.2.1 ≤ 20 ∧ 0 ≤ c.2.2.1 ∧ c.2.2.1 ≤ 99
  wa : ∀ r ∈ ws, ∀ i, r.2.2 = some i → 0 ≤ i ∧ i ≤ 99
  wd : ∀ c ∈ cs, Nm c.1
  nd : (cs.map (·.1)).Nodup
  wp : (ws.map fun r => (r.1, r.2.1)).Nodup
  wn : ∀ r ∈ ws, r.1 ≠ r.2.1
/-- what stands while a palette is made: the names at N, colours at C, washes at W -/
structure PMc (K : PySem.W.Frag) (H0 : Hp) (b C W N : Addr) (ns : List Str) (n : Nat) (xs us : List V) (cs : List Col) (ws : List Wsh) (H : Hp) : Prop where
  st : Bp H b n
  sm : Sm [b] H0 H
  hN : off H [C, W, b] N = some (.lst (ns.map V.str))
  hC : H C = some (.lst xs)
  dC : DpAll K (off H [C, W, b]) xs (cs.map colD)
  hW : H W = some (.lst us)
  dW : DpAll K (off H [C, W, b]) us (ws.map washD)
structure PAc (H0 : Hp) (b C W : Addr) : Prop where
  Cb : C ≠ b
  Wb : W ≠ b
  CW : C ≠ W
  nC : H0 C = none
  nW : H0 W = none
section
variable {K : PySem.W.Frag} {H0 H H' : Hp} {b C W N p : Addr} {ns : List Str} {n m : Nat} {xs us : List V} {cs : List Col} {ws : List Wsh} {o : HO}
theorem PMc.live (P : PMc K H0 b C W N ns n xs us cs ws H) : Live [C, W, b] H := ((Live.pw P.st).cons P.hW).cons P.hC
theorem PMc.drawn (P : PMc K H0 b C W N ns n xs us cs ws H) (a : PAc H0 b C W) (st : Bp H' b m) (s : Sm [b] H H') : PMc K H0 b C W N ns m xs us cs ws H' :=
  have s2 : Sm [C, W, b] H H' := sm_one (by simp) s
  ⟨st, P.sm.trans s, s2 _ _ P.hN, sm1_at s a.Cb P.hC, dpAll_same s2 P.dC, sm1_at s a.Wb P.hW, dpAll_same s2 P.dW⟩
theorem PMc.same (P : PMc K H0 b C W N ns n xs us cs ws H) (s : Same H H') : PMc K H0 b C W N ns n xs us cs ws H' :=
  have s2 : Sm [C, W, b] H H' := sm_of s
  ⟨P.st.same s, P.sm.trans (sm_of s), s2 _ _ P.hN, s _ _ P.hC, dpAll_same s2 P.dC, s _ _ P.hW, dpAll_same s2 P.dW⟩
theorem PMc.put (P : PMc K H0 b C W N ns n xs us cs ws H) (h : H p = none) : PMc K H0 b C W N ns n xs us cs ws (upd H p o) := P.same (same_upd h)
theorem PMc.mono (P : PMc K H0 b C W N ns n xs us cs ws H) (h : n ≤ m) : PMc K H0 b C W N ns m xs us cs ws H := ⟨P.st.mono h, P.sm, P.hN, P.hC, P.dC, P.hW, P.dW⟩
theorem PMc.colour (P : PMc K H0 b C W N ns n xs us cs ws H) (a : PAc H0 b C W) {v : V} {r : Col} (hv : Dp K (off H [C, W, b]) v (colD r)) : PMc K H0 b C W N ns n (xs ++ [v]) us (cs ++ [r]) ws (upd H C (.lst (xs ++ [v]))) :=
  have s2 : Sm [C, W, b] H (upd H C (.lst (xs ++ [v]))) := sm_wr (by simp)
  ⟨P.st.wr a.Cb, smp P.sm a.nC, s2 _ _ P.hN, upd_same, by rw [List.map_append]; exact dpAll_same s2 (dpAll_app P.dC (.cons hv .nil)), by rw [upd_ne a.CW.symm]; exact P.hW, dpAll_same s2 P.dW⟩
theorem PMc.wash (P : PMc K H0 b C W N ns n xs us cs ws H) (a : PAc H0 b C W) {v : V} {r : Wsh} (hv : Dp K (off H [C, W, b]) v (washD r)) : PMc K H0 b C W N ns n xs (us ++ [v]) cs (ws ++ [r]) (upd H W (.lst (us ++ [v]))) :=
  have s2 : Sm [C, W, b] H (upd H W (.lst (us ++ [v]))) := sm_wr (by simp)
  ⟨P.st.wr a.Wb, smp P.sm a.nW, s2 _ _ P.hN, by rw [upd_ne a.CW]; exact P.hC, dpAll_same s2 P.dC, upd_same, by rw [List.map_append]; exact dpAll_same s2 (dpAll_app P.dW (.cons hv .nil))⟩
end
theorem rows_cols (cs : List Col) : RowsCmp (cs.map colD) := by
  refine ⟨fun d hd => ?_, fun x r x2 r2 h1 h2 => ?_, fun xs ys h1 h2 => ?_⟩
  · obtain ⟨c, _, rfl⟩ := List.mem_map.mp hd
    exact ⟨_, _, rfl⟩
  · obtain ⟨c, _, e⟩ := List.mem_map.mp h1
    obtain ⟨c2, _, e2⟩ := List.mem_map.mp h2
    obtain ⟨rfl, _⟩ := List.cons.inj (PyData.tuple.inj e)
    obtain ⟨rfl, _⟩ := List.cons.inj (PyData.tuple.inj e2)
    rfl
  · obtain ⟨c, _, e⟩ := List.mem_map.mp h1
    obtain ⟨c2, _, e2⟩ := List.mem_map.mp h2
    rw [← PyData.tuple.inj e, ← PyData.tuple.inj e2]
    have a1 : ∀ x y : Str, PySem.W.alike (.str x) (.str y) = true := fun _ _ => rfl
    have a2 : ∀ x y : Int, PySem.W.alike (.int x) (.int y) = true := fun _ _ => rfl
    simp only [okCmp, a1, a2, Bool.true_and, Bool.or_true, Bool.and_true]
theorem depth_col (c : Col) : (colD c).depth ≤ 60 := by
  show PyData.depthAll _ + 1 ≤ 60
  simp only [PyData.depthAll, PyData.depth]
  omega
theorem depth_wash (r : Wsh) : (washD r).depth ≤ 60 := by
  show PyData.depthAll _ + 1 ≤ 60
  cases h : r.2.2 <;> (simp only [PyData.depthAll, PyData.depth, optD]; omega)
theorem alike_opt (o : Option Int) : PySem.W.alike (optD o) (optD o) = true := by cases o <;> rfl
theorem pair_eq {ws : List Wsh} (h : (ws.map fun r => (r.1, r.2.1)).Nodup) {r r2 : Wsh} (h1 : r ∈ ws) (h2 : r2 ∈ ws) (e1 : r.1 = r2.1) (e2 : r.2.1 = r2.2.1) : r = r2 := by
  obtain ⟨i, hi, rfl⟩ := List.getElem_of_mem h1
  obtain ⟨j, hj, rfl⟩ := List.getElem_of_mem h2
  have := (List.getElem_inj (i := i) (j := j) (h₀ := by rw [List.length_map]; exact hi) (h₁ := by rw [List.length_map]; exact hj) h).mp (by rw [List.getElem_map, List.getElem_map]; exact Prod.ext e1 e2)
  subst this; rfl
theorem rows_wash {ws : List Wsh} (h : (ws.map fun r => (r.1, r.2.1)).Nodup) : RowsCmp (ws.map washD) := by
  refine ⟨fun d hd => ?_, fun x r x2 r2 h1 h2 => ?_, fun xs ys h1 h2 => ?_⟩
  · obtain ⟨c, _, rfl⟩ := List.mem_map.mp hd
    exact ⟨_, _, rfl⟩
  · obtain ⟨c, _, e⟩ := List.mem_map.mp h1
    obtain ⟨c2, _, e2⟩ := List.mem_map.mp h2
    obtain ⟨rfl, _⟩ := List.cons.inj (PyData.tuple.inj e)
    obtain ⟨rfl, _⟩ := List.cons.inj (PyData.tuple.inj e2)
    rfl
  · obtain ⟨c, m1, e⟩ := List.mem_map.mp h1
    obtain ⟨c2, m2, e2⟩ := List.mem_map.mp h2
    rw [← PyData.tuple.inj e, ← PyData.tuple.inj e2]
    have a1 : ∀ x y : Str, PySem.W.alike (.str x) (.str y) = true := fun _ _ => rfl
    simp only [okCmp, a1, Bool.true_and, Bool.or_true, Bool.and_true]
    cases e1 : PyData.eqv (.str c.1) (.str c2.1) with
    | false => rfl
    | true =>
      cases e3 : PyData.eqv (.str c.2.1) (.str c2.2.1) with
      | false => rfl
      | true =>
        have x1 : c.1 = c2.1 := by simpa [PyData.eqv] using e1
        have x2 : c.2.1 = c2.2.1 := by simpa [PyData.eqv] using e3
        rw [pair_eq h m1 m2 x1 x2, alike_opt]; rfl
section
variable {K : PySem.W.Frag}
theorem go_offB {H : Hp} {b : Addr} {n : Nat} (B : Bp H b n) (a : Addr) (us : List V) (h : SqT K H a us) : SqT K (off H [b]) a us := by
  obtain ⟨x, y, z, h1, _⟩ := B
  have go : ∀ o, (H a = some (.tup us) ∨ H a = some (.frz o (.tup us))) → a ∉ [b] := fun o e z => by
    rw [List.mem_singleton] at z; subst z; rw [h1] at e; rcases e with e | e <;> cases e
  rcases h with (h | ⟨o, h⟩) | h
  · exact .inl (.inl (by rw [off_out (go ⟨.none, none, .fields #[], #[]⟩ (.inl h))]; exact h))
  · exact .inl (.inr ⟨o, by rw [off_out (go o (.inr h))]; exact h⟩)
  · exact .inr h
theorem dp_offB {H : Hp} {b : Addr} {n : Nat} {v : V} {e : PyData} (B : Bp H b n) (h : noLAll.noL e) (p : Dp K H v e) : Dp K (off H [b]) v e := dp_go (go_offB B) h p
theorem dpAll_offB {H : Hp} {b : Addr} {n : Nat} {vs : List V} {es : List PyData} (B : Bp H b n) (h : noLAll es) (p : DpAll K H vs es) : DpAll K (off H [b]) vs es := dpAll_go (go_offB B) h p
end
theorem div_mod_inj {m i j : Nat} (h1 : i / m = j / m) (h2 : i % m = j % m) : i = j := by
  have a := Nat.div_add_mod i m
  have b := Nat.div_add_mod j m
  rw [h1, h2] at a
  omega
end Pot

namespace Pot
open PySem PySem.Spec PyProof.Rows L2
/-! ### a list that is filled while there is drawn, things beside it that stay -/
structure Acc (K : PySem.W.Frag) (H0 : Hp) (b R : Addr) (fs : List (V × PyData)) (n : Nat) (us : List V) (ds : List PyData) (H : Hp) : Prop where
  st : Bp H b n
  sm : Sm [b] H0 H
  Rb : R ≠ b
  nR : H0 R = none
  fr : ∀ p ∈ fs, Dp K (off H [R, b]) p.1 p.2
  hR : H R = some (.lst us)
  dR : DpAll K (off H [R, b]) us ds
section
variable {K : PySem.W.Frag} {H0 H H' : Hp} {b R p : Addr} {fs : List (V × PyData)} {n m : Nat} {us : List V} {ds : List PyData} {o : HO}
theorem Acc.live (M : Acc K H0 b R fs n us ds H) : Live [R, b] H := (Live.pw M.st).cons M.hR
theorem Acc.drawn (M : Acc K H0 b R fs n us ds H) (st : Bp H' b m) (s : Sm [b] H H') : Acc K H0 b R fs m us ds H' :=
  have s2 : Sm [R, b] H H' := sm_one (by simp) s
  ⟨st, M.sm.trans s, M.Rb, M.nR, fun q hq => dp_same s2 (M.fr q hq), sm1_at s M.Rb M.hR, dpAll_same s2 M.dR⟩
theorem Acc.same (M : Acc K H0 b R fs n us ds H) (s : Same H H') : Acc K H0 b R fs n us ds H' :=
  have s2 : Sm [R, b] H H' := sm_of s
  ⟨M.st.same s, M.sm.trans (sm_of s), M.Rb, M.nR, fun q hq => dp_same s2 (M.fr q hq), s _ _ M.hR, dpAll_same s2 M.dR⟩
theorem Acc.put (M : Acc K H0 b R fs n us ds H) (h : H p = none) : Acc K H0 b R fs n us ds (upd H p o) := M.same (same_upd h)
theorem Acc.mono (M : Acc K H0 b R fs n us ds H) (h : n ≤ m) : Acc K H0 b R fs m us ds H := ⟨M.st.mono h, M.sm, M.Rb, M.nR, M.fr, M.hR, M.dR⟩
theorem Acc.app (M : Acc K H0 b R fs n us ds H) {v : V} {d : PyData} (hv : Dp K (off H [R, b]) v d) : Acc K H0 b R fs n (us ++ [v]) (ds ++ [d]) (upd H R (.lst (us ++ [v]))) :=
  have s2 : Sm [R, b] H (upd H R (.lst (us ++ [v]))) := sm_wr (by simp)
  ⟨M.st.wr M.Rb, smp M.sm M.nR, M.Rb, M.nR, fun q hq => dp_same s2 (M.fr q hq), upd_same, dpAll_same s2 (dpAll_app M.dR (.cons hv .nil))⟩
/-- the list is new -/
theorem Acc.start (B : Bp H b n) (s : Sm [b] H0 H) (h : H R = none) (fr : ∀ p ∈ fs, Dp K (off H [b]) p.1 p.2) : Acc K H0 b R fs n [] [] (upd H R (.lst [])) :=
  ⟨B.put h, s.trans (sm_put h), B.ne h, sm_free s B.bx h, fun q hq => by
    have e : off (upd H R (.lst [])) [R, b] = off H [b] := off_fresh h
    rw [e]; exact fr q hq, upd_same, .nil⟩
theorem Acc.new (M : Acc K H0 b R fs n us ds H) (h : H p = none) : off (upd H p o) [R, b] p = some o := off_new M.live h
/-- the list done: a thing among the others -/
theorem Acc.done (M : Acc K H0 b R fs n us ds H) : Dp K (off H [b]) (.ref R) (.list ds) :=
  .lst (SqL.of (by rw [off_out (by simpa using M.Rb)]; exact M.hR)) (dpAll_same (off_mono (by simp)) M.dR)
theorem Acc.kept (M : Acc K H0 b R fs n us ds H) {q : V × PyData} (h : q ∈ fs) : Dp K (off H [b]) q.1 q.2 := dp_same (off_mono (by simp)) (M.fr q h)
end
theorem e106 : (10 : Int) ^ (6 : Int).toNat = 1000000 := by decide
end Pot

namespace Pot
open PySem PySem.Spec PyProof.Rows L2
section
variable {K : PySem.W.Frag}
/-! ### bounds of drawn data, its texts too -/
def txAll (n : Nat) : List PyData → Prop
  | [] => True
  | x :: xs => tx n x ∧ txAll n xs
where tx (n : Nat) : PyData → Prop
  | .str x => x.length ≤ n ∧ ∀ c ∈ x.cps.toList, c < 128
  | .list xs => txAll n xs
  | .tuple xs => txAll n xs
  | _ => True
abbrev tx (n : Nat) (d : PyData) : Prop := txAll.tx n d
theorem txAll_iff {n : Nat} : ∀ {ds : List PyData}, txAll n ds ↔ ∀ d ∈ ds, tx n d
  | [] => ⟨fun _ _ h => (List.not_mem_nil h).elim, fun _ => trivial⟩
  | x :: xs => ⟨fun h d hd => (List.mem_cons.mp hd).elim (fun e => by rw [e]; exact h.1) fun e => txAll_iff.mp h.2 d e, fun h => ⟨h x List.mem_cons_self, txAll_iff.mpr fun d hd => h d (List.mem_cons_of_mem _ hd)⟩⟩
mutual
theorem tx_mono {n k : Nat} (h : n ≤ k) : ∀ d : PyData, tx n d → tx k d
  | .none, _ => trivial
  | .bool _, _ => trivial
  | .int _, _ => trivial
  | .str x, g => ⟨Nat.le_trans g.1 h, g.2⟩
  | .list xs, g => txAll_mono h xs g
  | .tuple xs, g => txAll_mono h xs g
  | .dict _, _ => trivial
theorem txAll_mono {n k : Nat} (h : n ≤ k) : ∀ ds : List PyData, txAll n ds → txAll k ds
  | [], _ => trivial
  | x :: xs, g => ⟨tx_mono h x g.1, txAll_mono h xs g.2⟩
end
structure Bd (n m C D W : Nat) (d : PyData) : Prop where
  t : Th m C D W d
  x : tx n d
structure Bds (n m C D W : Nat) (ds : List PyData) : Prop where
  t : Ths m C D W ds
  x : ∀ d ∈ ds, tx n d
section
variable {n m C D W n' m' C' D' W' : Nat} {d x : PyData} {ds es xs ys : List PyData}
theorem Bd.mono (h : Bd n m C D W d) (a : n ≤ n') (b : m ≤ m') (c : C ≤ C') (e : D ≤ D') (f : W ≤ W') : Bd n' m' C' D' W' d := ⟨h.t.mono b c e f, tx_mono a d h.x⟩
theorem Bds.mono (h : Bds n m C D W ds) (a : n ≤ n') (b : m ≤ m') (c : C ≤ C') (e : D ≤ D') (f : W ≤ W') : Bds n' m' C' D' W' ds := ⟨h.t.mono b c e f, fun d hd => tx_mono a d (h.x d hd)⟩
theorem Bds.nil : Bds n m 0 D W [] := ⟨Ths.nil, fun _ h => (List.not_mem_nil h).elim⟩
theorem Bds.app (h : Bds n m C D W xs) (k : Bds n m C' D W ys) : Bds n m (C + C') D W (xs ++ ys) := ⟨h.t.app k.t, fun d hd => (List.mem_append.mp hd).elim (h.x d) (k.x d)⟩
theorem Bds.one (h : Bd n m C D W x) : Bds n m (C + 2) D W [x] := ⟨Ths.one h.t, fun d hd => by rw [List.mem_singleton.mp hd]; exact h.x⟩
theorem Bds.list (h : Bds n m C D W ds) (l : ds.length ≤ W) : Bd n m (C + 3) (D + 1) W (.list ds) := ⟨h.t.list l, txAll_iff.mpr h.x⟩
theorem Bds.tuple (h : Bds n m C D W ds) (l : ds.length ≤ W) : Bd n m (C + 3) (D + 1) W (.tuple ds) := ⟨h.t.tuple l, txAll_iff.mpr h.x⟩
theorem Bd.parts (h : Bd n m C D W d) (e : d = .list ds ∨ d = .tuple ds) : Bds n m (C - 3) (D - 1) W ds ∧ ds.length ≤ W ∧ 3 ≤ C ∧ 1 ≤ D := by
  obtain ⟨a, b⟩ := h.t.parts e
  refine ⟨⟨a, ?_⟩, b⟩
  rcases e with rfl | rfl
  · exact txAll_iff.mp h.x
  · exact txAll_iff.mp h.x
theorem Bds.take (h : Bds n m C D W ds) (k : Nat) : Bds n m C D W (ds.take k) := ⟨h.t.take k, fun d hd => h.x d (List.mem_of_mem_take hd)⟩
theorem Bds.drop (h : Bds n m C D W ds) (k : Nat) : Bds n m C D W (ds.drop k) := ⟨h.t.drop k, fun d hd => h.x d (List.mem_of_mem_drop hd)⟩
theorem Bds.rev (h : Bds n m C D W ds) : Bds n m C D W ds.reverse := ⟨h.t.rev, fun d hd => h.x d (List.mem_reverse.mp hd)⟩
theorem Bds.set {i : Nat} (h : Bds n m C D W ds) (k : Bd n m C' D W x) : Bds n m (C + C' + 2) D W (ds.set i x) := ⟨h.t.set k.t, fun d hd => (List.mem_or_eq_of_mem_set hd).elim (h.x d) fun e => by rw [e]; exact k.x⟩
theorem Bds.mem (h : Bds n m C D W ds) (e : d ∈ ds) : Bd n m C D W d := ⟨h.t.mem e, h.x d e⟩
theorem bd_int {i : Int} (h : i.natAbs ≤ m) : Bd n m 1921 0 0 (.int i) := ⟨⟨h, Nat.le_refl _, Nat.le_refl _, Nat.le_refl _⟩, trivial⟩
theorem bd_bool (b : Bool) : Bd n m 5 0 0 (.bool b) := ⟨⟨trivial, Nat.le_refl _, Nat.le_refl _, Nat.le_refl _⟩, trivial⟩
theorem bd_none : Bd n m 4 0 0 .none := ⟨⟨trivial, Nat.le_refl _, Nat.le_refl _, Nat.le_refl _⟩, trivial⟩
theorem bd_str {z : Str} (h : z.length ≤ n) (h2 : n ≤ 2000) (c : ∀ x ∈ z.cps.toList, x < 128) : Bd n m (10 * n + 2) 0 0 (.str z) := ⟨⟨⟨Nat.le_trans h h2, fun x hx => Nat.lt_trans (c x hx) (by decide)⟩, by show 10 * z.length + 2 ≤ _; omega, Nat.le_refl _, Nat.le_refl _⟩, h, c⟩
end
theorem text_small {i : Int} (h : i.natAbs < 10 ^ 11) : (Str.ofString (toString i)).length ≤ 12 := by
  rw [PySem.ofString_length]
  exact int_text_length_le10 (k := 11) (by decide) h
theorem text_ascii (i : Int) : ∀ c ∈ (Str.ofString (toString i)).cps.toList, c < 128 := by
  intro c hc
  refine Decidable.byContradiction fun h => ?_
  exact PyProof.Rows.int_text_free' c ⟨by omega, by omega⟩ i hc
theorem cut_small (z : Str) (lo hi : Option Int) : (cutS z lo hi).length ≤ z.length := by
  have := cut_len z lo hi
  have h1 : HT.sIx z.length z.length hi ≤ z.length := HT.sIx_le _ _ (Nat.le_refl _) _
  omega
theorem cut_dp {H : Hp} {xs : List V} {ds : List PyData} {n m C D W : Nat} (da : DpAll K H xs ds) (b : Bds n m C D W ds) (lo hi : Option Int) : ∃ ys es, cutV xs lo hi = ys ∧ DpAll K H ys es ∧ Bds n m C D W es ∧ es.length ≤ ds.length ∧ ys.length = es.length := by
  refine ⟨_, (ds.drop (HT.sIx xs.length 0 lo)).take (HT.sIx xs.length xs.length hi - HT.sIx xs.length 0 lo), rfl, ?_, (b.drop _).take _, ?_, ?_⟩
  · exact dpAll_take _ (dpAll_drop _ da)
  · rw [List.length_take, List.length_drop]; omega
  · exact dpAll_len (dpAll_take _ (dpAll_drop _ da))
theorem cut_one (xs : List V) (a : Nat) : (cutV xs (some (a : Int)) (some ((a : Int) + 1))).length ≤ 1 := by
  unfold cutV
  rw [List.length_take, List.length_drop]
  rw [show ((a : Int) + 1) = ((a + 1 : Nat) : Int) by omega, HT.sIx_nat, HT.sIx_nat]
  omega
theorem str_mem_app {a b : Str} {x : Nat} (h : x ∈ (a ++ b).cps.toList) : x ∈ a.cps.toList ∨ x ∈ b.cps.toList := by
  have e : (a ++ b).cps.toList = a.cps.toList ++ b.cps.toList := Array.toList_append
  rw [e] at h
  exact List.mem_append.mp h
abbrev SqA (K : PySem.W.Frag) (H : Hp) (a : Addr) (xs : List V) : Prop := SqL K H a xs ∨ SqT K H a xs
theorem sq_same {H H' : Hp} {a : Addr} {xs : List V} (s : Same H H') (h : SqA K H a xs) : SqA K H' a xs := h.imp s.seq (same_tup s)
theorem sqa_off {H : Hp} {S : List Addr} {a : Addr} {xs : List V} (h : SqA K (off H S) a xs) : SqA K H a xs := sq_same off_sub h
theorem sqa_len {H : Hp} {a : Addr} {xs : List V} (h : SqA K H a xs) : LenV K (.ref a) H xs.length := h.elim (fun h => .inl ⟨_, h, rfl⟩) (fun h => .inr ⟨_, h, rfl⟩)
end
theorem upper_len {z : Str} (h : ∀ c ∈ z.cps.toList, c < 128) : (Txt.upper z).length = z.length := by
  rw [PyProof.Rows.upper_ascii h]
  show (z.cps.map _).size = z.cps.size
  rw [Array.size_map]
theorem upper_small {z : Str} (h : ∀ c ∈ z.cps.toList, c < 128) : ∀ c ∈ (Txt.upper z).cps.toList, c < 128 := by
  rw [PyProof.Rows.upper_ascii h]
  intro c hc
  have hc : c ∈ z.cps.toList.map PyProof.Rows.up1 := by simpa using hc
  obtain ⟨d, hd, rfl⟩ := List.mem_map.mp hc
  have := h d hd
  unfold PyProof.Rows.up1
  split <;> omega
theorem log_smallW {i : Int} (h : i.natAbs ≤ 10 ^ 12) : i.natAbs.log2 < 1920 := by
  by_cases z : i.natAbs = 0
  · rw [z]; decide
  · have := (Nat.log2_lt z).mpr (show i.natAbs < 2 ^ 40 from Nat.lt_of_le_of_lt h (by decide))
    omega
mutual
theorem gd_fineW {m : Nat} (h : m ≤ 10 ^ 12) : ∀ d : PyData, gd m d → fineAll.fine d
  | .none, _ => trivial
  | .bool _, _ => trivial
  | .int i, g => log_smallW (Nat.le_trans g h)
  | .str _, g => fun c hc => Nat.lt_trans (g.2 c hc) (by decide)
  | .list xs, g => gdAll_fineW h xs g
  | .tuple xs, g => gdAll_fineW h xs g
  | .dict _, g => g.elim
theorem gdAll_fineW {m : Nat} (h : m ≤ 10 ^ 12) : ∀ ds : List PyData, gdAll m ds → fineAll ds
  | [], _ => trivial
  | x :: xs, g => ⟨gd_fineW h x g.1, gdAll_fineW h xs g.2⟩
end
theorem Nm.ascii {z : Str} (h : Nm z) : ∀ c ∈ z.cps.toList, c < 128 := fun c hc => by have := (h.1.2 c hc).2; omega
theorem ascii_of {s : String} (h : (Str.ofString s).cps.toList.all (fun c => decide (c < 128)) = true) : ∀ c ∈ (Str.ofString s).cps.toList, c < 128 := fun c hc => of_decide_eq_true (List.all_eq_true.mp h c hc)
theorem ascii_app {a b : Str} (h1 : ∀ x ∈ a.cps.toList, x < 128) (h2 : ∀ x ∈ b.cps.toList, x < 128) : ∀ x ∈ (a ++ b).cps.toList, x < 128 := fun x hx => (str_mem_app hx).elim (h1 x) (h2 x)
theorem ascii_cut {z : Str} (h : ∀ x ∈ z.cps.toList, x < 128) (lo hi : Option Int) : ∀ x ∈ (cutS z lo hi).cps.toList, x < 128 := fun x hx => h x (cut_mem hx)
end Pot

namespace Pot
open PySem PySem.Spec PyProof.Rows L2
def topS (i : Nat) : Stmt := PySem.Challenge.pw_potround_k84_whole_what_is_made_of_order.main.body.getD i (.Pass ⟨0, 0, 0, 0⟩)
section
variable {P : Program} {w : World} {K : PySem.W.Frag} {mg : Str → Option Value} {base : Heap}
abbrev s__law_take : Stmt := topS 16
def n__law_take : List Str := ["_law_state", "_law_many", "_law_digit", "_law_low", "_law_high", "_law_turn", "_law_once", "_law_twice"]
theorem sc__law_take : FnScope n__law_take ["_law_state", "_law_many"] (defScope s__law_take) := ⟨rfl, rfl, rfl, by decide +kernel, rfl, by decide +kernel, by decide +kernel⟩
/-! ### _law_take -/
def spTake : Sp := fun vs H Q _ => ∃ (b : Addr) (m : Int) (n : Nat), vs = [.ref b, .int m] ∧ 0 < m ∧ m < 1073741824 ∧ Bq H b n ∧ n < 2 ^ 40 ∧
  ∀ H' r, 0 ≤ r → r < m → Bq H' b (n + 1) → Sm [b] H H' → Q (.int r) H'
theorem ok_take {f : Addr} {fd : FuncData} {k : Nat} (F : Fun K "_law_take" "_law_take" s__law_take f fd) (T : Txt mg) :
    FnOk P w K mg base CX0 (k + 1) f fd ["_law_state", "_law_many"] spTake := by
  refine F.ok sc__law_take (fun vs H Q E h => ?_) (fun cdv A outer s H vs Q E hr h => ?_)
  · obtain ⟨b, m, n, rfl, _⟩ := h
    rfl
  · obtain ⟨b, m, n, rfl, hm0, hm1, ⟨x, y, z, B, z0, zn⟩, hn, q⟩ := h
    have nd := sc__law_take.nd
    refine ⟨_, (pss_cons (ps_if (pt_cmpR op_gt (pe_ix (kx_list (K := K)) (pv 0) pe_int (fun _ _ => rfl)) pe_int (nomark _))
          (pss_cons (ps_asg (pe_callB call_divmod (by rfl) T.divmod (by decide +kernel) (pa_cons (pe_ix (kx_list (K := K)) (pv 0) pe_int (fun _ _ => rfl)) (pa_cons (pv 1) pa_nil))) (kg_tup (K := K) (n := 2) (pgs_cons (pg_sub (pv 0) pe_int set_list) (pgs_cons (pg_name (i := 2) nd rfl (.inl rfl)) pgs_nil))))
          (pss_one (ps_ret (pv 2))))
          pss_nil)
      (pss_cons (ps_asg (pe_op op_add (pe_ix (kx_list (K := K)) (pv 0) pe_int (fun _ _ => rfl)) pe_int) (pg_sub (pv 0) pe_int set_list))
      (pss_cons (ps_par3 (i := 3) (j := 4) (l := 5) rfl nd rfl rfl rfl (by decide) (by decide) (by decide) rfl rfl rfl (pa_cons (pe_op op_mod (pe_ix (kx_list (K := K)) (pv 0) pe_int (fun _ _ => rfl)) pe_int) (pa_cons (pe_op op_fdivW (pe_ix (kx_list (K := K)) (pv 0) pe_int (fun _ _ => rfl)) pe_int) (pa_cons (pe_ix (kx_list (K := K)) (pv 0) pe_int (fun _ _ => rfl)) pa_nil))) rfl)
      (pss_cons (ps_set (i := 6) nd rfl (.inl rfl) (pe_op op_mod (pe_op op_mul (pe_op op_add (pe_op op_add (pv 3) (pe_op op_mul (pe_op op_mul (pv 5) (pv 5)) pe_int)) pe_int) pe_int) pe_int))
      (pss_cons (ps_set (i := 7) nd rfl (.inl rfl) (pe_op op_mod (pe_op op_add (pe_op op_add (pe_op op_mul (pv 6) (pe_op op_add (pe_op op_mod (pv 6) pe_int) pe_int)) (pv 4)) (pv 5)) pe_int))
      (pss_one (ps_ret (pe_op op_mod (pe_op op_fdiv (pe_op op_mod (pe_op op_add (pe_op op_mul (pv 7) pe_int) (pv 6)) pe_int) pe_int) (pv 1))))))))), ?_⟩
    refine ⟨_, rfl, b, _, 0, .int x, rfl, rfl, SqL.of B, rfl, _, _, rfl, rfl, _, rfl, ite2 (fun hb => ?_) (fun hb => ?_)⟩
    · refine ⟨_, rfl, b, _, 0, .int x, rfl, rfl, SqL.of B, rfl, _, rfl, _, _, rfl, ⟨hm0, hm1⟩, fun p np => ?_⟩
      have nb : b ≠ p := ne_of_none B np
      have B1 : upd H p (.tup [.int (x / m), .int (x % m)]) b = some (.lst [.int x, .int y, .int z]) := by rw [upd_ne nb]; exact B
      refine ⟨p, _, rfl, .inl (.inl upd_same), rfl, _, _, rfl, _, rfl, b, _, 0, 0, rfl, rfl, B1, rfl, ?_⟩
      refine ⟨_, _, rfl, rfl, _, rfl, ?_⟩
      exact q _ _ (Int.emod_nonneg _ (by omega)) (Int.emod_lt_of_pos _ hm0) ⟨_, _, _, upd_same, z0, by omega⟩ ((sm_put np).trans (sm_wr List.mem_cons_self))
    · refine ⟨_, rfl, b, _, 2, .int z, rfl, rfl, SqL.of B, rfl, _, _, rfl, rfl, _, rfl, b, _, 2, 2, rfl, rfl, B, rfl, ?_⟩
      have B2 : upd H b (.lst [.int x, .int y, .int (z + 1)]) b = some (.lst [.int x, .int y, .int (z + 1)]) := upd_same
      have s2 : Sm [b] H (upd H b (.lst [.int x, .int y, .int (z + 1)])) := sm_wr List.mem_cons_self
      show tSeq _ _ _ _ (upd H b (.lst [.int x, .int y, .int (z + 1)]))
      generalize upd H b (.lst [.int x, .int y, .int (z + 1)]) = H2 at B2 s2 ⊢
      have t2 : z + 1 < 2 ^ 41 := by omega
      refine ⟨_, rfl, b, _, 1, .int y, rfl, rfl, SqL.of B2, rfl, _, _, rfl, rfl, (by show (0 : Int) < 2147483629; decide), ?_⟩
      refine ⟨_, rfl, b, _, 1, .int y, rfl, rfl, SqL.of B2, rfl, _, _, rfl, rfl, CDivW.of (by decide) (by decide), ?_⟩
      refine ⟨_, rfl, b, _, 2, .int (z + 1), rfl, rfl, SqL.of B2, rfl, _, _, _, rfl, ?_⟩
      refine ⟨_, rfl, _, rfl, _, rfl, _, _, rfl, rfl, .inl ⟨by omega, by omega⟩, _, _, rfl, rfl, .inr ⟨by decide, by decide⟩, _, _, rfl, rfl, _, _, rfl, rfl, _, _, rfl, rfl, .inr ⟨by decide, by decide⟩, _, _, rfl, rfl, (by show (0 : Int) < 2147483647; decide), ?_⟩
      refine ⟨_, rfl, _, rfl, _, _, rfl, rfl, (by show (0 : Int) < 30011; decide), _, _, rfl, rfl, _, _, rfl, rfl, cmul_mod _ _ (by decide) (by decide), _, rfl, _, _, rfl, rfl, _, rfl, _, _, rfl, rfl, _, _, rfl, rfl, (by show (0 : Int) < 2147483587; decide), ?_⟩
      refine ⟨_, rfl, _, _, rfl, rfl, .inr ⟨by decide, by decide⟩, _, rfl, _, _, rfl, rfl, _, _, rfl, rfl, (by show (0 : Int) < 2147483629; decide), _, _, rfl, rfl, ⟨by decide, by decide⟩, _, rfl, _, _, rfl, rfl, hm0, ?_⟩
      exact q _ _ (Int.emod_nonneg _ (by omega)) (Int.emod_lt_of_pos _ hm0) ⟨_, _, _, B2, by omega, by omega⟩ s2

abbrev s__law_begin : Stmt := topS 15
def n__law_begin : List Str := ["_law_script", "_law_k", "_law_cell"]
theorem sc__law_begin : FnScope n__law_begin ["_law_script", "_law_k"] (defScope s__law_begin) := ⟨rfl, rfl, rfl, by decide +kernel, rfl, by decide +kernel, by decide +kernel⟩
/-! ### _law_begin -/
def spBegin (K : PySem.W.Frag) : Sp := fun vs H Q _ => ∃ (a : Addr) (ns : List Int) (k : Nat), vs = [.ref a, .int (k : Nat)] ∧ SqL K H a (ns.map V.int) ∧ k ≤ 63 ∧ ∀ H' b, Same H H' → Bq H' b 0 → H b = none → Q (.ref b) H'
theorem ok_begin {f : Addr} {fd : FuncData} {k : Nat} (F : Fun K "_law_begin" "_law_begin" s__law_begin f fd) (T : Txt mg) : FnOk P w K mg base CX0 (k + 1) f fd ["_law_script", "_law_k"] (spBegin K) := by
  refine F.ok sc__law_begin (fun vs H Q E h => ?_) (fun cdv A outer s H vs Q E hr h => ?_)
  · obtain ⟨a, ns, k, rfl, _⟩ := h
    rfl
  · obtain ⟨a, ns, k, rfl, hS, h63, q⟩ := h
    have nd := sc__law_begin.nd
    refine ⟨_, (pss_cons (ps_set (i := 2) nd rfl (.inl rfl) (pe_ifExp (pt_cmpR op_lt (pv 1) (pe_callB (kc_len (K := K)) (by rfl) T.len PySem.boot_len (pa_cons (pv 0) pa_nil)) (nomark _)) (pe_ix (kx_list (K := K)) (pv 0) (pv 1) (fun _ _ => rfl)) pe_int))
      (pss_one (ps_ret (pe_lst (pa_cons (pe_op op_mul (pe_callB call_abs (by rfl) T.abs (by decide +kernel) (pa_cons (pv 2) pa_nil)) (pe_callTy call_int1 (by rfl) T.int (by decide +kernel) (pa_cons (pe_cmpR op_ge (pe_callB call_abs (by rfl) T.abs (by decide +kernel) (pa_cons (pv 2) pa_nil)) (pe_op op_pow pe_int pe_int) (nomark _)) pa_nil))) (pa_cons (pe_op op_add (pe_op op_add (pe_op op_mod (pe_callB call_abs (by rfl) T.abs (by decide +kernel) (pa_cons (pv 2) pa_nil)) (pe_op op_pow pe_int pe_int)) (pe_op op_mul pe_int (pv 1))) (pe_callTy call_int1 (by rfl) T.int (by decide +kernel) (pa_cons (pe_cmpR op_lt (pv 2) pe_int (nomark _)) pa_nil))) (pa_cons pe_int pa_nil))))))), ?_⟩
    refine ⟨_, rfl, _, rfl, _, _, rfl, .inl ⟨_, hS, rfl⟩, _, _, rfl, rfl, _, rfl, ite2 (fun hb => ?_) (fun hb => ?_)⟩
    · have hk : k < ns.length := by have := of_decide_eq_true hb; rw [List.length_map] at this; omega
      refine ⟨_, rfl, _, rfl, a, _, _, _, rfl, rfl, hS, atI_nat (by rw [List.getElem?_map, List.getElem?_eq_getElem hk]; rfl), ?_⟩
      refine ⟨_, rfl, _, rfl, _, rfl, _, rfl, _, _, rfl, rfl, ⟨by decide, by decide, by decide⟩, _, _, rfl, rfl, .inr ⟨_, rfl, _, _, rfl, rfl, .inr (b01 _), ?_⟩⟩
      refine ⟨_, rfl, _, rfl, _, _, rfl, rfl, ⟨by decide, by decide, by decide⟩, _, _, rfl, rfl, (by show (0 : Int) < 10 ^ 40; decide), _, rfl, _, _, rfl, rfl, .inl ⟨by decide, by decide⟩, _, _, rfl, rfl, _, rfl, _, _, rfl, rfl, .inr ⟨_, rfl, _, _, rfl, rfl, (by show 3 ≤ sizeLine; decide), fun p np => ?_⟩⟩
      exact q _ _ (same_upd np) ⟨_, _, _, upd_same, Int.le_refl _, Int.le_refl _⟩ np
    · skip
      refine ⟨_, rfl, _, rfl, _, rfl, _, rfl, _, _, rfl, rfl, ⟨by decide, by decide, by decide⟩, _, _, rfl, rfl, .inr ⟨_, rfl, _, _, rfl, rfl, .inr (b01 _), ?_⟩⟩
      refine ⟨_, rfl, _, rfl, _, _, rfl, rfl, ⟨by decide, by decide, by decide⟩, _, _, rfl, rfl, (by show (0 : Int) < 10 ^ 40; decide), _, rfl, _, _, rfl, rfl, .inl ⟨by decide, by decide⟩, _, _, rfl, rfl, _, rfl, _, _, rfl, rfl, .inr ⟨_, rfl, _, _, rfl, rfl, (by show 3 ≤ sizeLine; decide), fun p np => ?_⟩⟩
      exact q _ _ (same_upd np) ⟨_, _, _, upd_same, Int.le_refl _, Int.le_refl _⟩ np

end
end Pot

namespace Pot
open PySem PySem.Spec PyProof.Rows L2
section
variable {P : Program} {w : World} {K : PySem.W.Frag} {mg : Str → Option Value} {base : Heap}
theorem sm_wr0 {H H2 : Hp} {S : List Addr} {L : Addr} {o : HO} (s : Sm S H H2) (n : H L = none) : Sm S H (upd H2 L o) := fun x u e => by
  have nm := off_mem e
  have e2 := s x u e
  rw [off_out nm] at e e2 ⊢
  have ne : x ≠ L := fun z => by rw [z, n] at e; cases e
  rw [upd_ne ne]; exact e2
abbrev Pc := Int × Int
def pc0 : Pc := (0, 0)
def pcD (p : Pc) : PyData := .tuple [.int p.1, .int p.2]
def PcOk (p : Pc) : Prop := 1 ≤ p.1 ∧ p.1 ≤ 9 ∧ 0 ≤ p.2 ∧ p.2 ≤ 1000000000
theorem pc_dp {H : Hp} {v : V} {p : Pc} (h : Dp K H v (pcD p)) : ∃ a, v = .ref a ∧ SqT K H a [.int p.1, .int p.2] := by
  obtain ⟨a, xs, rfl, hs, ha⟩ := dp_tup h
  obtain ⟨x, y, rfl, h1, h2⟩ := dp_two ha
  rw [dp_int h1, dp_int h2] at hs
  exact ⟨a, rfl, hs⟩
theorem pcs_at {H : Hp} {xs : List V} {ps : List Pc} (h : DpAll K H xs (ps.map pcD)) {i : Nat} {v : V} (g : xs[i]? = some v) : ∃ a, v = .ref a ∧ SqT K H a [.int (ps.getD i pc0).1, .int (ps.getD i pc0).2] ∧ i < ps.length ∧ Dp K H v (pcD (ps.getD i pc0)) := by
  obtain ⟨d, gd, dp⟩ := dpAll_at h g
  rw [List.getElem?_map] at gd
  obtain ⟨p, gp, rfl⟩ := Option.map_eq_some_iff.mp gd
  have e : ps.getD i pc0 = p := by rw [List.getD_eq_getElem?_getD, gp]; rfl
  rw [e]
  obtain ⟨a, rfl, hs⟩ := pc_dp dp
  exact ⟨a, rfl, hs, (List.getElem?_eq_some_iff.mp gp).1, dp⟩
theorem pcs_getD {ps : List Pc} {p : Pc → Prop} (h : ∀ x ∈ ps, p x) {i : Nat} (hi : i < ps.length) : p (ps.getD i pc0) := by
  rw [List.getD_eq_getElem?_getD, List.getElem?_eq_getElem hi]
  exact h _ (List.getElem_mem hi)
/-- all but lists and tables stays -/
def Nl (H H' : Hp) : Prop := ∀ x o, H x = some o → (∀ l, o ≠ .lst l) → (∀ p, o ≠ .tbl p) → H' x = some o
theorem Nl.refl (H : Hp) : Nl H H := fun _ _ h _ _ => h
theorem Nl.trans {H H1 H2 : Hp} (a : Nl H H1) (b : Nl H1 H2) : Nl H H2 := fun x o h n m => b x o (a x o h n m) n m
theorem Nl.same {H H' : Hp} (s : Same H H') : Nl H H' := fun x o h _ _ => s x o h
theorem Nl.ext {H H' : Hp} (s : LamX.ExtN H H') : Nl H H' := fun x o h _ m => s x o h m
theorem Nl.box {H H' : Hp} {b : Addr} (s : Sm [b] H H') (B : Bx H b) : Nl H H' := fun x o h n _ => by
  have ne : x ≠ b := fun z => by
    obtain ⟨_, _, _, e⟩ := B
    rw [z, e] at h
    exact n _ (Option.some.inj h).symm
  exact sm_at s (by simp [ne]) h
theorem Nl.put {H : Hp} {p : Addr} {o : HO} (h : H p = none) : Nl H (upd H p o) := Nl.same (same_upd h)
theorem Nl.wr {H : Hp} {p : Addr} {o : HO} {l : List V} (h : H p = some (.lst l)) : Nl H (upd H p o) := fun x u e n _ => by
  have ne : x ≠ p := fun z => by rw [z, h] at e; exact n _ (Option.some.inj e).symm
  rw [upd_ne ne]; exact e
theorem sqT_nl {H H' : Hp} {a : Addr} {xs : List V} (s : Nl H H') (h : SqT K H a xs) : SqT K H' a xs := by
  rcases h with (h | ⟨o, h⟩) | h
  · exact .inl (.inl (s _ _ h (fun l z => by cases z) fun l z => by cases z))
  · exact .inl (.inr ⟨o, s _ _ h (fun l z => by cases z) fun l z => by cases z⟩)
  · exact .inr h
theorem pcs_nl {H H' : Hp} (s : Nl H H') : ∀ {ps : List Pc} {xs : List V}, DpAll K H xs (ps.map pcD) → DpAll K H' xs (ps.map pcD)
  | [], _, h => by
    cases h
    exact .nil
  | p :: ps, _, h => by
    cases h with
    | cons a r =>
      obtain ⟨t, rfl, ht⟩ := pc_dp a
      exact .cons (.tup (sqT_nl s ht) (.cons (.int _) (.cons (.int _) .nil))) (pcs_nl s r)

end
end Pot

namespace Pot
open PySem PySem.Spec PyProof.Rows L2
section
variable {P : Program} {w : World} {K : PySem.W.Frag} {mg : Str → Option Value} {base : Heap}
/-- how many pairs of a rank and more come to -/
def abvF (ps : List Pc) (r : Int) : Int := (((ps.filter fun p => decide (r ≤ p.1))).map (·.2)).sum
def lackF (cs os : List Pc) (r : Int) : Int := max 0 (abvF os r - abvF cs r)
abbrev Rw := Nat × Nat × Int
def rwD (r : Rw) : PyData := .tuple [.int (r.1 : Int), .int (r.2.1 : Int), .int r.2.2]
theorem rw_al : ∀ b b' : Rw, PySem.W.alike (rwD b) (rwD b') = true := fun b b' => by simp [rwD, PySem.W.alike, PySem.W.alikeAll]
theorem rw_tp : ∀ b : Rw, ∃ x r, rwD b = .tuple (x :: r) := fun b => ⟨_, _, rfl⟩
theorem rw_dep : ∀ b : Rw, (rwD b).depth ≤ 60 := fun b => by simp [rwD, PyData.depth, PyData.depthAll]
/-- one crew's turn for the order o of rank rk -/
def mkStep (cs : List Pc) (o : Nat) (rk : Int) (s : List Int × Int × List Rw) (k : Nat) : List Int × Int × List Rw :=
  if rk ≤ (cs.getD k pc0).1 ∧ 0 < (if s.2.1 < s.1.getD k 0 then s.2.1 else s.1.getD k 0) then
    (s.1.set k (s.1.getD k 0 - (if s.2.1 < s.1.getD k 0 then s.2.1 else s.1.getD k 0)), s.2.1 - (if s.2.1 < s.1.getD k 0 then s.2.1 else s.1.getD k 0), s.2.2 ++ [(o, k, if s.2.1 < s.1.getD k 0 then s.2.1 else s.1.getD k 0)])
  else s
def madeF (cs os : List Pc) (o : Nat) (left : List Int) (i : Nat) : List Int × Int × List Rw := (List.range i).foldl (mkStep cs o (os.getD o pc0).1) (left, (os.getD o pc0).2, [])
theorem madeF_one (cs os : List Pc) (o : Nat) (left : List Int) (i : Nat) : madeF cs os o left (i + 1) = mkStep cs o (os.getD o pc0).1 (madeF cs os o left i) i := by
  unfold madeF
  rw [List.range_succ, List.foldl_append]; rfl
def shStep (cs os : List Pc) (s : List Int × List Rw) (o : Nat) : List Int × List Rw := ((madeF cs os o s.1 cs.length).1, s.2 ++ (madeF cs os o s.1 cs.length).2.2)
def ordF (os : List Pc) : List Nat := (List.range os.length).mergeSort fun i j => decide (-(os.getD i pc0).1 ≤ -(os.getD j pc0).1)
def shF (cs os : List Pc) (i : Nat) : List Int × List Rw := ((ordF os).take i).foldl (shStep cs os) (cs.map (·.2), [])
theorem shF_one {cs os : List Pc} {i o : Nat} (g : (ordF os)[i]? = some o) : shF cs os (i + 1) = shStep cs os (shF cs os i) o := by
  unfold shF
  rw [List.take_add_one, g, List.foldl_append]; rfl
def rowsF (cs os : List Pc) : List Rw := (shF cs os os.length).2
def sumR (rs : List Rw) : Int := (rs.map fun r => r.2.2).sum
def lackingF (cs os : List Pc) : Int := (os.map (·.2)).sum - sumR (rowsF cs os)

def spAbv (K : PySem.W.Frag) : Sp := fun vs H Q _ => ∃ (a : Addr) (xs : List V) (ps : List Pc) (r : Int), vs = [.ref a, .int r] ∧ SqL K H a xs ∧ DpAll K H xs (ps.map pcD) ∧ ps.length ≤ 20 ∧ ∀ H', Same H H' → Q (.int (abvF ps r)) H'
abbrev s_sum_from : Stmt := topS 9
def n_sum_from : List Str := ["pairs", "rank", "own", "many"]
theorem sc_sum_from : FnScope n_sum_from ["pairs", "rank"] (defScope s_sum_from) := ⟨rfl, rfl, rfl, by decide +kernel, rfl, by decide +kernel, by decide +kernel⟩
theorem ok_sumfrom {f : Addr} {fd : FuncData} {k : Nat} (F : Fun K "sum_from" "sum_from" s_sum_from f fd) (T : Txt mg) : FnOk P w K mg base CX0 (k + 1) f fd ["pairs", "rank"] (spAbv K) := by
  refine F.ok sc_sum_from (fun vs H Q E h => ?_) (fun cdv A outer s H vs Q E hr h => ?_)
  · obtain ⟨a, xs, ps, r, rfl, _⟩ := h
    rfl
  · obtain ⟨a, xs, ps, r, rfl, hS, da, lp, q⟩ := h
    have nd := sc_sum_from.nd
    have lx : xs.length = ps.length := dpAll_map_len da
    refine ⟨_, (pss_one (ps_ret (pe_callB (kc_sum (K := K)) (by rfl) T.sum (by decide +kernel) (pa_cons (pe_lc (own := [("own", 2), ("many", 3)]) rfl nd (ki_list (K := K) (pv 0)) (blkOk_by (N := n_sum_from) (sc := defScope s_sum_from) (by decide +kernel)) (fun _ _ _ _ _ => (kg_tup (K := K) (n := 2) (pgs_cons (pg_name (i := 2) nd rfl (.inl rfl)) (pgs_cons (pg_name (i := 3) nd rfl (.inl rfl)) pgs_nil)))) (fun _ _ _ _ _ => (pts_one (pt_cmpR op_ge (pv 2) (pv 1) (nomark _)))) (fun _ _ _ _ _ => (pv 3))) pa_nil)))), ?_⟩
    refine ⟨_, rfl, a, rfl, ⟨_, hS⟩, fun D nD => ?_⟩
    refine lc_it (walk_list (xs := xs)) (PvL H D fun i => (((ps.take i).filter fun p => decide (r ≤ p.1)).map (·.2)).map V.int) (pv_start nD rfl) (fun i H4 _ h => h.1.seq hS) ?_ ?_
    · rintro i y H4 H5 hi p ⟨rfl, gx⟩
      obtain ⟨b, rfl, hb, hi2, _⟩ := pcs_at (dpAll_same p.1 da) gx
      have gp : ps[i]? = some (ps.getD i pc0) := by rw [List.getD_eq_getElem?_getD, List.getElem?_eq_getElem hi2]; rfl
      generalize ps.getD i pc0 = pr at hb gp
      refine ⟨b, _, rfl, hb, rfl, _, _, rfl, _, _, rfl, rfl, rfl, ?_⟩
      have lf : ((((ps.take i).filter fun p => decide (r ≤ p.1)).map (·.2)).map V.int).length < sizeLine := by
        rw [List.length_map, List.length_map, sizeLine_eq]
        have := List.length_filter_le (fun p : Pc => decide (r ≤ p.1)) (ps.take i)
        rw [List.length_take] at this
        omega
      refine ⟨_, rfl, _, rfl, _, _, rfl, rfl, _, rfl, ite2 (fun h1 => ?_) (fun h1 => ?_)⟩
      · refine ⟨_, rfl, ?_⟩
        exact pv_put nD p (Same.refl _) (by rw [List.take_add_one, gp, List.filter_append, Option.toList_some, List.filter_cons_of_pos (p := fun p : Pc => decide (r ≤ p.1)) h1, List.map_append, List.map_append]; rfl) lf
      · exact pv_skip p (Same.refl _) (by rw [List.take_add_one, gp, List.filter_append, Option.toList_some, List.filter_cons_of_neg (p := fun p : Pc => decide (r ≤ p.1)) h1, List.filter_nil, List.append_nil])
    · intro H4 p
      obtain ⟨s4, hD⟩ := pv_end p (show _ = (((ps.filter fun p => decide (r ≤ p.1))).map (·.2)).map V.int by rw [lx, List.take_length])
      refine ⟨D, _, rfl, SqL.of hD, ?_⟩
      exact q _ s4
abbrev s_lack_by : Stmt := topS 8
def n_lack_by : List Str := ["crews", "orders", "rank"]
theorem sc_lack_by : FnScope n_lack_by ["crews", "orders", "rank"] (defScope s_lack_by) := ⟨rfl, rfl, rfl, by decide +kernel, rfl, by decide +kernel, by decide +kernel⟩
def spLack (K : PySem.W.Frag) : Sp := fun vs H Q _ => ∃ (c o : Addr) (xs ys : List V) (cs os : List Pc) (r : Int), vs = [.ref c, .ref o, .int r] ∧ SqL K H c xs ∧ SqL K H o ys ∧ DpAll K H xs (cs.map pcD) ∧ DpAll K H ys (os.map pcD) ∧ cs.length ≤ 20 ∧ os.length ≤ 20 ∧ ∀ H', Same H H' → Q (.int (lackF cs os r)) H'
theorem ok_lackby {f : Addr} {fd : FuncData} {k : Nat} (F : Fun K "lack_by" "lack_by" s_lack_by f fd) (T : Txt mg) (c_sum_from : Cl P w K mg base (k + 1) "sum_from" (spAbv K)) : FnOk P w K mg base CX0 (k + 2) f fd ["crews", "orders", "rank"] (spLack K) := by
  refine F.ok sc_lack_by (fun vs H Q E h => ?_) (fun cdv A outer s H vs Q E hr h => ?_)
  · obtain ⟨c, o, xs, ys, cs, os, r, rfl, _⟩ := h
    rfl
  · obtain ⟨c, o, xs, ys, cs, os, r, rfl, hC, hO, dc, dO, lc, lo, q⟩ := h
    have nd := sc_lack_by.nd
    refine ⟨_, (pss_one (ps_ret (pe_callB (call_max2 rfl) (by rfl) T.max (by decide +kernel) (pa_cons pe_int (pa_cons (pe_op op_sub (pe_cl c_sum_from hr (by omega) (by rfl) (pa_cons (pv 1) (pa_cons (pv 2) pa_nil))) (pe_cl c_sum_from hr (by omega) (by rfl) (pa_cons (pv 0) (pa_cons (pv 2) pa_nil)))) pa_nil))))), ?_⟩
    refine ⟨_, rfl, _, rfl, o, ys, os, r, rfl, hO, dO, lo, fun H1 s1 => ⟨_, rfl, _, rfl, c, xs, cs, r, rfl, s1.seq hC, dpAll_same s1 dc, lc, fun H2 s2 => ?_⟩⟩
    refine ⟨_, _, rfl, rfl, _, _, rfl, ?_⟩
    have e : (if abvF os r - abvF cs r > 0 then abvF os r - abvF cs r else 0) = lackF cs os r := by
      unfold lackF
      split <;> omega
    rw [e]
    exact q _ (s1.trans s2)
abbrev s_lacking_rank : Stmt := topS 7
def n_lacking_rank : List Str := ["crews", "orders", "lacking", "rank", "many"]
theorem sc_lacking_rank : FnScope n_lacking_rank ["crews", "orders", "lacking"] (defScope s_lacking_rank) := ⟨rfl, rfl, rfl, by decide +kernel, rfl, by decide +kernel, by decide +kernel⟩
def lrF (cs os : List Pc) (l : Int) : Option Int := if l = 0 then none else (((os.filter fun p => decide (lackF cs os p.1 = l))).map (·.1)).min?
def opV : Option Int → V
  | none => .non
  | some h => .int h
def spLr (K : PySem.W.Frag) : Sp := fun vs H Q _ => ∃ (c o : Addr) (xs ys : List V) (cs os : List Pc) (l : Int), vs = [.ref c, .ref o, .int l] ∧ SqL K H c xs ∧ SqL K H o ys ∧ DpAll K H xs (cs.map pcD) ∧ DpAll K H ys (os.map pcD) ∧ cs.length ≤ 20 ∧ os.length ≤ 20 ∧ (l ≠ 0 → ∃ p ∈ os, lackF cs os p.1 = l) ∧
  ∀ H', Same H H' → Q (opV (lrF cs os l)) H'
theorem ok_lr {f : Addr} {fd : FuncData} {k : Nat} (F : Fun K "lacking_rank" "lacking_rank" s_lacking_rank f fd) (T : Txt mg) (c_lack_by : Cl P w K mg base (k + 2) "lack_by" (spLack K)) : FnOk P w K mg base CX0 (k + 3) f fd ["crews", "orders", "lacking"] (spLr K) := by
  refine F.ok sc_lacking_rank (fun vs H Q E h => ?_) (fun cdv A outer s H vs Q E hr h => ?_)
  · obtain ⟨c, o, xs, ys, cs, os, l, rfl, _⟩ := h
    rfl
  · obtain ⟨c, o, xs, ys, cs, os, l, rfl, hC, hO, dc, dO, lc, lo, hl, q⟩ := h
    have nd := sc_lacking_rank.nd
    refine ⟨_, (pss_cons (ps_if (pt_cmpR op_eq (pv 2) pe_int (nomark _))
          (pss_one (ps_ret pe_non))
          pss_nil)
      (pss_one (ps_ret (pe_callB (kc_min (K := K)) (by rfl) T.min (by decide +kernel) (pa_cons (pe_lc (own := [("rank", 3), ("many", 4)]) rfl nd (ki_list (K := K) (pv 1)) (blkOk_by (N := n_lacking_rank) (sc := defScope s_lacking_rank) (by decide +kernel)) (fun _ _ _ _ _ => (kg_tup (K := K) (n := 2) (pgs_cons (pg_name (i := 3) nd rfl (.inl rfl)) (pgs_cons (pg_name (i := 4) nd rfl (.inl rfl)) pgs_nil)))) (fun _ _ _ _ _ => (pts_one (pt_cmpR op_eq (pe_cl c_lack_by hr (by omega) (by rfl) (pa_cons (pv 0) (pa_cons (pv 1) (pa_cons (pv 3) pa_nil)))) (pv 2) (nomark _)))) (fun _ _ _ _ _ => (pv 3))) pa_nil))))), ?_⟩
    refine ⟨_, rfl, rfl, _, rfl, ite2 (fun h1 => ?_) (fun h1 => ?_)⟩
    · have h1 := V.int.inj (of_decide_eq_true h1)
      refine ?_
      have e : lrF cs os l = none := if_pos h1
      have := q H (Same.refl _)
      rw [e] at this
      exact this
    · have h1 : l ≠ 0 := fun z => h1 (decide_eq_true (by rw [z]))
      refine ⟨_, rfl, o, rfl, ⟨_, hO⟩, fun D nD => ?_⟩
      have ly : ys.length = os.length := dpAll_map_len dO
      refine lc_it (walk_list (xs := ys)) (PvL H D fun i => (((os.take i).filter fun p => decide (lackF cs os p.1 = l)).map (·.1)).map V.int) (pv_start nD rfl) (fun i H4 _ h => h.1.seq hO) ?_ ?_
      · rintro i y H4 H5 hi p ⟨rfl, gx⟩
        obtain ⟨b, rfl, hb, hi2, _⟩ := pcs_at (dpAll_same p.1 dO) gx
        have gp : os[i]? = some (os.getD i pc0) := by rw [List.getD_eq_getElem?_getD, List.getElem?_eq_getElem hi2]; rfl
        generalize os.getD i pc0 = pr at hb gp
        refine ⟨b, _, rfl, hb, rfl, _, _, rfl, _, _, rfl, rfl, rfl, ?_⟩
        have lf : ((((os.take i).filter fun p => decide (lackF cs os p.1 = l)).map (·.1)).map V.int).length < sizeLine := by
          rw [List.length_map, List.length_map, sizeLine_eq]
          have := List.length_filter_le (fun p : Pc => decide (lackF cs os p.1 = l)) (os.take i)
          rw [List.length_take] at this
          omega
        refine ⟨_, rfl, _, rfl, _, rfl, c, o, xs, ys, cs, os, _, rfl, p.1.seq hC, p.1.seq hO, dpAll_same p.1 dc, dpAll_same p.1 dO, lc, lo, fun H6 s6 => ⟨_, rfl, rfl, _, rfl, ite2 (fun h1 => ?_) (fun h1 => ?_)⟩⟩
        · replace h1 : decide (lackF cs os pr.1 = l) = true := decide_eq_true (V.int.inj (of_decide_eq_true h1))
          refine ⟨_, rfl, ?_⟩
          exact pv_put nD p s6 (by rw [List.take_add_one, gp, List.filter_append, Option.toList_some, List.filter_cons_of_pos (p := fun p : Pc => decide (lackF cs os p.1 = l)) h1, List.map_append, List.map_append]; rfl) lf
        · replace h1 : ¬ decide (lackF cs os pr.1 = l) = true := fun z => h1 (decide_eq_true (by rw [of_decide_eq_true z]))
          exact pv_skip p s6 (by rw [List.take_add_one, gp, List.filter_append, Option.toList_some, List.filter_cons_of_neg (p := fun p : Pc => decide (lackF cs os p.1 = l)) h1, List.filter_nil, List.append_nil])
      · intro H4 p
        obtain ⟨s4, hD⟩ := pv_end p (show _ = (((os.filter fun p => decide (lackF cs os p.1 = l))).map (·.1)).map V.int by rw [ly, List.take_length])
        obtain ⟨p0, hp0, ep0⟩ := hl h1
        have m0 : p0.1 ∈ ((os.filter fun p => decide (lackF cs os p.1 = l))).map (·.1) := List.mem_map_of_mem (List.mem_filter.mpr ⟨hp0, decide_eq_true ep0⟩)
        refine ⟨D, _, rfl, SqL.of hD, List.length_pos_iff.mpr (List.ne_nil_of_mem m0), fun m hm hmin => ?_⟩
        have e : lrF cs os l = some m := by
          unfold lrF
          rw [if_neg h1]
          exact List.min?_eq_some_iff.mpr ⟨hm, hmin⟩
        have := q H4 s4
        rw [e] at this
        exact this

theorem Nl.one {H H' : Hp} {l : Addr} {xs : List V} (s : Sm [l] H H') (h : H l = some (.lst xs)) : Nl H H' := fun x o e n _ => by
  have ne : x ≠ l := fun z => by rw [z, h] at e; exact n _ (Option.some.inj e).symm
  exact sm_at s (by simp [ne]) e
theorem sqL_sm {H H' : Hp} {c l : Addr} {xs : List V} (s : Sm [l] H H') (n : c ≠ l) (h : SqL K H c xs) : SqL K H' c xs := by
  rcases h with (h | ⟨o, h⟩) | h
  · exact .inl (.inl (sm_at s (by simp [n]) h))
  · exact .inl (.inr ⟨o, sm_at s (by simp [n]) h⟩)
  · exact .inr h
theorem rws_nl {H H' : Hp} (s : Nl H H') : ∀ {rs : List Rw} {xs : List V}, DpAll K H xs (rs.map rwD) → DpAll K H' xs (rs.map rwD)
  | [], _, h => by
    cases h
    exact .nil
  | p :: ps, _, h => by
    cases h with
    | cons a r =>
      obtain ⟨t, ts, rfl, ht, dts⟩ := dp_tup a
      obtain ⟨x, y, z, rfl, d1, d2, d3⟩ := dp_three dts
      rw [dp_int d1, dp_int d2, dp_int d3] at ht
      exact .cons (.tup (sqT_nl s ht) (.cons (.int _) (.cons (.int _) (.cons (.int _) .nil)))) (rws_nl s r)
def spMade (K : PySem.W.Frag) : Sp := fun vs H Q _ => ∃ (c o l : Addr) (n : Nat) (xs ys : List V) (cs os : List Pc) (left : List Int), vs = [.ref c, .ref o, .int (n : Nat), .ref l] ∧ c ≠ l ∧ SqL K H c xs ∧ SqL K H o ys ∧ DpAll K H xs (cs.map pcD) ∧ DpAll K H ys (os.map pcD) ∧ cs.length ≤ 20 ∧ os.length ≤ 20 ∧ n < os.length ∧ H l = some (.lst (left.map V.int)) ∧ left.length = cs.length ∧
  ∀ (H' : Hp) (R : Addr) (us : List V), Sm [l] H H' → H R = none → H' R = some (.lst us) → H' l = some (.lst ((madeF cs os n left cs.length).1.map V.int)) → (madeF cs os n left cs.length).1.length = cs.length → DpAll K H' us ((madeF cs os n left cs.length).2.2.map rwD) → us.length ≤ 20 → Q (.ref R) H'
abbrev s_made_of : Stmt := topS 6
def n_made_of : List Str := ["crews", "orders", "order", "left", "rank", "wanted", "rows", "crew", "many"]
theorem sc_made_of : FnScope n_made_of ["crews", "orders", "order", "left"] (defScope s_made_of) := ⟨rfl, rfl, rfl, by decide +kernel, rfl, by decide +kernel, by decide +kernel⟩
set_option maxHeartbeats 1000000 in
theorem ok_made {f : Addr} {fd : FuncData} {k : Nat} (F : Fun K "made_of" "made_of" s_made_of f fd) (T : Txt mg) : FnOk P w K mg base CX0 (k + 1) f fd ["crews", "orders", "order", "left"] (spMade K) := by
  refine F.ok sc_made_of (fun vs H Q E h => ?_) (fun cdv A outer s H vs Q E hr h => ?_)
  · obtain ⟨c, o, l, n, xs, ys, cs, os, left, rfl, _⟩ := h
    rfl
  · obtain ⟨c, o, l, n, xs, ys, cs, os, left, rfl, cl, hC, hO, dc, dO, lc, lo, hn, hl, ll, q⟩ := h
    have nd := sc_made_of.nd
    have lx : xs.length = cs.length := dpAll_map_len dc
    have ly : ys.length = os.length := dpAll_map_len dO
    /- 0 crews, 1 orders, 2 order, 3 left, 4 rank, 5 wanted, 6 rows, 7 crew, 8 many -/
    refine ⟨_, (pss_cons (ps_asg (pe_ix (kx_list (K := K)) (pv 1) (pv 2) (fun _ _ => rfl)) (kg_tup (K := K) (n := 2) (pgs_cons (pg_name (i := 4) nd rfl (.inl rfl)) (pgs_cons (pg_name (i := 5) nd rfl (.inl rfl)) pgs_nil))))
      (pss_cons (ps_set (i := 6) nd rfl (.inl rfl) (pe_lst pa_nil))
      (pss_cons (ps_for PassesOwn.never rfl (pi_range1 (by rfl) T.range (pa_cons (pe_callB (kc_len (K := K)) (by rfl) T.len PySem.boot_len (pa_cons (pv 0) pa_nil)) pa_nil)) (pg_name (i := 7) nd rfl (.inl rfl))
          (pss_cons (ps_set (i := 8) nd rfl (.inl rfl) (pe_callB (call_min2 rfl) (by rfl) T.min (by decide +kernel) (pa_cons (pe_ix (kx_list (K := K)) (pv 3) (pv 7) (fun _ _ => rfl)) (pa_cons (pv 5) pa_nil))))
          (pss_one (ps_if ((pw_and (pt_cmpR op_ge (pe_ix (kx_tup (K := K)) (pe_ix (kx_list (K := K)) (pv 0) (pv 7) (fun _ _ => rfl)) pe_int (fun _ _ => rfl)) (pv 4) (nomark _)) (pw_and1 (pt_cmpR op_gt (pv 8) pe_int (nomark _))))).pt
              (pss_cons (ps_augS (pv 3) (pv 7) (kget_list (K := K)) (pv 8) ip_sub set_list)
              (pss_cons (ps_aug (i := 5) nd rfl (.inl rfl) (pv 8) ip_sub)
              (pss_one (ps_expr (pe_bm PySem.F.plainAttrs_list PySem.F.slot_list_append PySem.F.type_list_append mt_append (pv 6) (pa_cons (pe_tup (pa_cons (pv 2) (pa_cons (pv 7) (pa_cons (pv 8) pa_nil)))) pa_nil))))))
              pss_nil))))
      (pss_one (ps_ret (pv 6)))))), ?_⟩
    have hny : n < ys.length := by omega
    obtain ⟨a, ea, ha, hn2, _⟩ := pcs_at dO (List.getElem?_eq_getElem hny)
    refine ⟨_, rfl, _, rfl, o, ys, n, _, rfl, rfl, hO, atI_nat (by rw [List.getElem?_eq_getElem hny, ea]), a, _, rfl, ha, rfl, _, _, rfl, _, _, rfl, rfl, ?_⟩
    refine ⟨Nat.zero_le _, fun R nR => ?_⟩
    have lR : l ≠ R := ne_of_none hl nR
    have est : ((((L2.start n_made_of [V.ref c, V.ref o, V.int (n : Int), V.ref l]).set 4 (some (V.int (os.getD n pc0).1))).set 5 (some (V.int (os.getD n pc0).2))).set 6 (some (V.ref R))) = [some (.ref c), some (.ref o), some (.int (n : Int)), some (.ref l), some (.int (os.getD n pc0).1), some (.int (os.getD n pc0).2), some (.ref R), none, none] := rfl
    show tSeq _ _ _ ((((L2.start n_made_of [V.ref c, V.ref o, V.int (n : Int), V.ref l]).set 4 (some (V.int (os.getD n pc0).1))).set 5 (some (V.int (os.getD n pc0).2))).set 6 (some (V.ref R))) (upd H R (.lst []))
    rw [est]
    have su := same_upd (o := .lst []) nR
    refine ⟨_, rfl, _, _, rfl, .inl ⟨_, su.seq hC, rfl⟩, _, rfl, (by omega), (by omega), ?_⟩
    refine for_it walk_range (fun i σ H2 => ∃ v7 v8 us, σ = [some (.ref c), some (.ref o), some (.int (n : Int)), some (.ref l), some (.int (os.getD n pc0).1), some (.int (madeF cs os n left i).2.1), some (.ref R), v7, v8] ∧ Sm [l] H H2 ∧ H2 R = some (.lst us) ∧ H2 l = some (.lst ((madeF cs os n left i).1.map V.int)) ∧ (madeF cs os n left i).1.length = cs.length ∧ DpAll K H2 us ((madeF cs os n left i).2.2.map rwD) ∧ us.length ≤ i)
      ⟨_, _, [], rfl, sm_put nR, upd_same, su _ _ hl, ll, .nil, Nat.le_refl _⟩ (fun _ _ _ _ _ => trivial) ?_ ?_
    · rintro i x σ H2 H3 hi ⟨v7, v8, us, rfl, sm, hR, hl2, ll2, du, lu⟩ ⟨rfl, rfl⟩
      have hic : i < cs.length := by omega
      have nl := Nl.one sm hl
      have hC2 : SqL K H3 c xs := sqL_sm sm cl hC
      have dc2 := pcs_nl nl dc
      have e0 : (fun i : Nat => V.int (0 + (i : Int))) i = V.int (i : Int) := by show V.int (0 + _) = _; rw [Int.zero_add]
      rw [e0]
      rw [madeF_one]
      generalize madeF cs os n left i = st at hl2 ll2 du ⊢
      obtain ⟨lf, wt, rs⟩ := st
      have gl : (lf.map V.int)[i]? = some (.int (lf.getD i 0)) := by
        have : i < lf.length := by rw [show lf.length = cs.length from ll2]; exact hic
        rw [List.getElem?_map, List.getElem?_eq_getElem this, List.getD_eq_getElem?_getD, List.getElem?_eq_getElem this]; rfl
      refine ⟨_, rfl, _, rfl, l, _, i, _, rfl, rfl, SqL.of hl2, atI_nat gl, _, rfl, _, _, rfl, ?_⟩
      have hix : i < xs.length := by omega
      obtain ⟨b, eb, hb, hi2, _⟩ := pcs_at dc2 (List.getElem?_eq_getElem hix)
      obtain ⟨mn, emn⟩ : ∃ mn : Int, (if wt < lf.getD i 0 then wt else lf.getD i 0) = mn := ⟨_, rfl⟩
      have eS : mkStep cs n (os.getD n pc0).1 (lf, wt, rs) i = if (os.getD n pc0).1 ≤ (cs.getD i pc0).1 ∧ 0 < mn then (lf.set i (lf.getD i 0 - mn), wt - mn, rs ++ [(n, i, mn)]) else (lf, wt, rs) := by
        unfold mkStep
        simp only [emn]
      rw [emn, eS]
      refine ⟨_, rfl, _, rfl, c, xs, i, _, rfl, rfl, hC2, atI_nat (by rw [List.getElem?_eq_getElem hix, eb]), b, _, 0, _, rfl, rfl, hb, rfl, _, rfl, _, _, rfl, rfl, _, rfl, ite2 (fun h1 => ?_) (fun h1 => ?_)⟩
      · have h1 := of_decide_eq_true h1
        refine ⟨_, rfl, _, _, rfl, rfl, _, rfl, ite2 (fun h2 => ?_) (fun h2 => ?_)⟩
        · have h2 := of_decide_eq_true h2
          rw [if_pos ⟨h1, h2⟩]
          have lml : (lf.map V.int).length = cs.length := by rw [List.length_map]; exact ll2
          have gm : (lf.map V.int).set i (.int (lf.getD i 0 - mn)) = (lf.set i (lf.getD i 0 - mn)).map V.int := by rw [List.map_set]
          refine ⟨_, rfl, _, rfl, ⟨l, _, i, _, rfl, rfl, SqL.of hl2, gl, _, rfl, _, _, rfl, rfl, l, _, i, i, rfl, rfl, hl2, Evl.ixN_nat (by rw [lml]; exact hic), ?_⟩⟩
          rw [gm]
          refine ⟨_, rfl, _, rfl, _, _, rfl, rfl, ?_⟩
          have hR2 : upd H3 l (.lst ((lf.set i (lf.getD i 0 - mn)).map V.int)) R = some (.lst us) := by rw [upd_ne (Ne.symm lR)]; exact hR
          have du2 := rws_nl (Nl.wr (o := .lst ((lf.set i (lf.getD i 0 - mn)).map V.int)) hl2) du
          have hl3 : upd H3 l (.lst ((lf.set i (lf.getD i 0 - mn)).map V.int)) l = _ := upd_same
          have sm2 : Sm [l] H (upd H3 l (.lst ((lf.set i (lf.getD i 0 - mn)).map V.int))) := sm.trans (sm_wr List.mem_cons_self)
          generalize upd H3 l (.lst ((lf.set i (lf.getD i 0 - mn)).map V.int)) = H4 at hR2 du2 hl3 sm2 ⊢
          refine ⟨_, rfl, .inl ⟨rfl, _, SqL.of hR2⟩, _, rfl, _, rfl, _, rfl, (by show 3 ≤ sizeLine; decide), fun t nt => ?_⟩
          have st := same_upd (o := .tup [.int (n : Int), .int (i : Int), .int mn]) nt
          have hR3 := st _ _ hR2
          have hl3 := st _ _ hl3
          have du3 := rws_nl (Nl.same st) du2
          have ht : upd H4 t (.tup [.int (n : Int), .int (i : Int), .int mn]) t = _ := upd_same
          have sm3 := sm2.trans (sm_of (S := [l]) st)
          generalize upd H4 t (.tup [.int (n : Int), .int (i : Int), .int mn]) = H5 at hR3 hl3 du3 ht sm3 ⊢
          refine ⟨R, _, _, rfl, rfl, hR3, (by rw [sizeLine_eq]; omega), ?_⟩
          refine ⟨_, _, us ++ [.ref t], rfl, sm_wr0 sm3 nR, upd_same, ?_, by rw [List.length_set]; exact ll2, ?_, by rw [List.length_append]; show us.length + 1 ≤ _; omega⟩
          · rw [upd_ne lR]; exact hl3
          · rw [List.map_append]
            have nw := Nl.wr (o := .lst (us ++ [.ref t])) hR3
            exact dpAll_app (rws_nl nw du3) (.cons (.tup (sqT_nl nw (.inl (.inl ht))) (.cons (.int _) (.cons (.int _) (.cons (.int _) .nil)))) .nil)
        · rw [if_neg (fun z => h2 (decide_eq_true z.2))]
          exact ⟨_, _, us, rfl, sm, hR, hl2, ll2, du, by omega⟩
      · rw [if_neg (fun z => h1 (decide_eq_true z.1))]
        exact ⟨_, _, us, rfl, sm, hR, hl2, ll2, du, by omega⟩
    · rintro σ H2 ⟨v7, v8, us, rfl, sm, hR, hl2, ll2, du, lu⟩
      rw [show ((xs.length : Int)).toNat = cs.length by omega] at hl2 ll2 du
      exact ⟨_, rfl, q _ R us sm nR hR hl2 ll2 du (by omega)⟩

end
end Pot

namespace Pot
open PySem PySem.Spec PyProof.Rows L2
section
variable {P : Program} {w : World} {K : PySem.W.Frag} {mg : Str → Option Value} {base : Heap}
/-! ### the mathematics of shared -/
def sg (f : Nat → Int) : Nat → Int
  | 0 => 0
  | n + 1 => sg f n + f n
theorem sg_congr {f g : Nat → Int} : ∀ {n : Nat}, (∀ k, k < n → f k = g k) → sg f n = sg g n
  | 0, _ => rfl
  | n + 1, h => by
    show sg f n + f n = sg g n + g n
    rw [sg_congr (n := n) fun k hk => h k (by omega), h n (by omega)]
theorem sg_one {f g : Nat → Int} {i : Nat} : ∀ {n : Nat}, i < n → (∀ k, k ≠ i → f k = g k) → sg f n = sg g n + (f i - g i)
  | 0, h, _ => absurd h (by omega)
  | n + 1, hi, h => by
    show sg f n + f n = sg g n + g n + _
    by_cases e : i = n
    · subst e
      rw [sg_congr (n := i) fun k hk => h k (by omega)]
      omega
    · rw [sg_one (n := n) (by omega) h, h n (fun z => e z.symm)]
      omega
theorem sg_nonneg {f : Nat → Int} : ∀ {n : Nat}, (∀ k, k < n → 0 ≤ f k) → 0 ≤ sg f n
  | 0, _ => Int.le_refl 0
  | n + 1, h => by
    have := sg_nonneg (n := n) fun k hk => h k (by omega)
    have := h n (by omega)
    show 0 ≤ sg f n + f n
    omega
theorem sg_le {f g : Nat → Int} : ∀ {n : Nat}, (∀ k, k < n → f k ≤ g k) → sg f n ≤ sg g n
  | 0, _ => Int.le_refl 0
  | n + 1, h => by
    have := sg_le (n := n) fun k hk => h k (by omega)
    have := h n (by omega)
    show sg f n + f n ≤ sg g n + g n
    omega
theorem sg_zero {f : Nat → Int} {n : Nat} (h : ∀ k, k < n → f k = 0) : sg f n = 0 := by
  rw [sg_congr (g := fun _ => 0) h]
  clear h
  induction n with
  | zero => rfl
  | succ n ih => show sg _ n + 0 = 0; rw [ih]; rfl
theorem sum_app (a b : List Int) : (a ++ b).sum = a.sum + b.sum := by
  induction a with
  | nil => simp
  | cons x a ih => simp only [List.cons_append, List.sum_cons, ih]; omega
theorem perm_sum {a b : List Int} (p : a.Perm b) : a.sum = b.sum := by
  induction p with
  | nil => rfl
  | cons x _ ih => simp only [List.sum_cons, ih]
  | swap x y l => simp only [List.sum_cons]; omega
  | trans _ _ h1 h2 => exact h1.trans h2
def gF (ps : List Pc) (r : Int) (k : Nat) : Int := if r ≤ (ps.getD k pc0).1 then (ps.getD k pc0).2 else 0
theorem abv_take (ps : List Pc) (r : Int) : ∀ i, i ≤ ps.length → abvF (ps.take i) r = sg (gF ps r) i
  | 0, _ => rfl
  | i + 1, h => by
    have e : ps[i]? = some (ps.getD i pc0) := by rw [List.getD_eq_getElem?_getD, List.getElem?_eq_getElem (by omega)]; rfl
    have ih := abv_take ps r i (by omega)
    show _ = sg (gF ps r) i + gF ps r i
    rw [← ih]
    unfold abvF gF
    rw [List.take_add_one, e, Option.toList_some, List.filter_append, List.map_append, sum_app]
    by_cases hr : r ≤ (ps.getD i pc0).1
    · rw [if_pos hr, List.filter_cons_of_pos (p := fun p : Pc => decide (r ≤ p.1)) (decide_eq_true hr)]
      simp
    · rw [if_neg hr, List.filter_cons_of_neg (p := fun p : Pc => decide (r ≤ p.1)) (by simpa using hr)]
      simp
theorem abv_sg (ps : List Pc) (r : Int) : abvF ps r = sg (gF ps r) ps.length := by
  rw [← abv_take ps r ps.length (Nat.le_refl _), List.take_length]
/-- what is left of the crews of a rank and more -/
def avF (cs : List Pc) (r : Int) (lf : List Int) : Nat → Int := sg fun k => if r ≤ (cs.getD k pc0).1 then lf.getD k 0 else 0
/-- rows of one crew, of one order -/
def crS (rs : List Rw) (k : Nat) : Int := ((rs.filter fun r => decide (r.2.1 = k)).map fun r => r.2.2).sum
def orS (rs : List Rw) (o : Nat) : Int := ((rs.filter fun r => decide (r.1 = o)).map fun r => r.2.2).sum
theorem fs_app {p : Rw → Bool} (rs ts : List Rw) : (((rs ++ ts).filter p).map fun r => r.2.2).sum = ((rs.filter p).map fun r => r.2.2).sum + ((ts.filter p).map fun r => r.2.2).sum := by
  rw [List.filter_append, List.map_append, sum_app]
theorem crS_one (r : Rw) (k : Nat) : crS [r] k = if r.2.1 = k then r.2.2 else 0 := by
  unfold crS
  by_cases h : r.2.1 = k
  · simp [h]
  · simp [h]
theorem orS_one (r : Rw) (k : Nat) : orS [r] k = if r.1 = k then r.2.2 else 0 := by
  unfold orS
  by_cases h : r.1 = k
  · simp [h]
  · simp [h]
theorem sumR_app (rs ts : List Rw) : sumR (rs ++ ts) = sumR rs + sumR ts := by
  unfold sumR
  rw [List.map_append, sum_app]
theorem getD_set (l : List Int) (i k : Nat) (v : Int) (hi : i < l.length) : (l.set i v).getD k 0 = if k = i then v else l.getD k 0 := by
  rw [List.getD_eq_getElem?_getD, List.getD_eq_getElem?_getD, List.getElem?_set]
  by_cases h : i = k
  · subst h
    simp [hi]
  · rw [if_neg h, if_neg (fun z => h z.symm)]
/-- what stands within one order's turns -/
structure MadeI (cs : List Pc) (o : Nat) (rk : Int) (l0 : List Int) (w : Int) (i : Nat) (s : List Int × Int × List Rw) : Prop where
  len : s.1.length = l0.length
  w0 : 0 ≤ s.2.1
  wm : s.2.1 = w - sumR s.2.2
  nn : ∀ k, 0 ≤ s.1.getD k 0
  up : ∀ k, s.1.getD k 0 = l0.getD k 0 - crS s.2.2 k
  rows : ∀ r ∈ s.2.2, r.1 = o ∧ r.2.1 < i ∧ rk ≤ (cs.getD r.2.1 pc0).1 ∧ 1 ≤ r.2.2
  inc : s.2.2.Pairwise fun a b => a.2.1 < b.2.1
  av : ∀ r, r ≤ rk → avF cs r s.1 l0.length = avF cs r l0 l0.length - sumR s.2.2
  out : s.2.1 = 0 ∨ ∀ k, k < i → rk ≤ (cs.getD k pc0).1 → s.1.getD k 0 = 0
theorem made_start {cs : List Pc} {o : Nat} {rk : Int} {l0 : List Int} {w : Int} (hw : 0 ≤ w) (hl : ∀ k, 0 ≤ l0.getD k 0) : MadeI cs o rk l0 w 0 (l0, w, []) :=
  ⟨rfl, hw, by show w = w - 0; omega, hl, fun k => by show l0.getD k 0 = l0.getD k 0 - 0; omega, fun r h => (List.not_mem_nil h).elim, .nil, fun r _ => by show avF cs r l0 l0.length = avF cs r l0 l0.length - 0; omega, .inr fun k h => absurd h (by omega)⟩
theorem made_step {cs : List Pc} {o : Nat} {rk : Int} {l0 : List Int} {w : Int} {i : Nat} {s : List Int × Int × List Rw} (h : MadeI cs o rk l0 w i s) (hi : i < l0.length) : MadeI cs o rk l0 w (i + 1) (mkStep cs o rk s i) := by
  obtain ⟨lf, wt, rs⟩ := s
  obtain ⟨h1, h2, h3, h4, h5, h6, h7, h8, h9⟩ := h
  dsimp only at h1 h2 h3 h4 h5 h6 h7 h8 h9
  unfold mkStep
  dsimp only
  obtain ⟨mn, emn⟩ : ∃ mn : Int, (if wt < lf.getD i 0 then wt else lf.getD i 0) = mn := ⟨_, rfl⟩
  rw [emn]
  have ni := h4 i
  have hm1 : mn ≤ wt := by rw [← emn]; split <;> omega
  have hm2 : mn ≤ lf.getD i 0 := by rw [← emn]; split <;> omega
  have hm3 : mn = wt ∨ mn = lf.getD i 0 := by rw [← emn]; split <;> omega
  have hm0 : 0 ≤ mn := by rw [← emn]; split <;> omega
  by_cases hc : rk ≤ (cs.getD i pc0).1 ∧ 0 < mn
  · rw [if_pos hc]
    have gs : ∀ k, (lf.set i (lf.getD i 0 - mn)).getD k 0 = if k = i then lf.getD i 0 - mn else lf.getD k 0 := fun k => getD_set _ _ _ _ (by omega)
    have sr : sumR (rs ++ [(o, i, mn)]) = sumR rs + mn := by rw [sumR_app]; show _ + (mn + 0) = _; omega
    refine ⟨by show (lf.set _ _).length = _; rw [List.length_set]; exact h1, by show 0 ≤ wt - mn; omega, ?_, fun k => ?_, fun k => ?_, fun r hr => ?_, ?_, fun r hr => ?_, ?_⟩
    · show wt - mn = w - sumR (rs ++ [(o, i, mn)])
      rw [sr]; omega
    · show 0 ≤ (lf.set i (lf.getD i 0 - mn)).getD k 0
      rw [gs]
      have := h4 k
      split <;> omega
    · show (lf.set i (lf.getD i 0 - mn)).getD k 0 = l0.getD k 0 - crS (rs ++ [(o, i, mn)]) k
      have e : crS (rs ++ [(o, i, mn)]) k = crS rs k + crS [(o, i, mn)] k := fs_app _ _
      rw [gs, e, crS_one]
      show _ = l0.getD k 0 - (crS rs k + if i = k then mn else 0)
      have := h5 k
      by_cases e : k = i
      · subst e
        rw [if_pos rfl, if_pos rfl]; omega
      · rw [if_neg e, if_neg (fun z => e z.symm)]; omega
    · rcases List.mem_append.mp hr with h | h
      · obtain ⟨a, b, c, d⟩ := h6 r h
        exact ⟨a, by omega, c, d⟩
      · rw [List.mem_singleton.mp h]
        exact ⟨rfl, by show i < i + 1; omega, hc.1, by show 1 ≤ mn; omega⟩
    · refine List.pairwise_append.mpr ⟨h7, List.pairwise_singleton _ _, fun a ha b hb => ?_⟩
      rw [List.mem_singleton.mp hb]
      exact (h6 a ha).2.1
    · show avF cs r (lf.set i (lf.getD i 0 - mn)) l0.length = avF cs r l0 l0.length - sumR (rs ++ [(o, i, mn)])
      have h8 := h8 r hr
      unfold avF at h8 ⊢
      rw [sr, sg_one (i := i) (g := fun k => if r ≤ (cs.getD k pc0).1 then lf.getD k 0 else 0) hi (fun k hk => by rw [gs, if_neg hk]), h8]
      have : r ≤ (cs.getD i pc0).1 := Int.le_trans hr hc.1
      rw [if_pos this, if_pos this, gs, if_pos rfl]
      omega
    · rcases hm3 with e | e
      · exact .inl (by show wt - mn = 0; omega)
      · refine h9.elim (fun z => .inl (by show wt - mn = 0; omega)) fun h9 => .inr fun k hk hr => ?_
        show (lf.set i (lf.getD i 0 - mn)).getD k 0 = 0
        rw [gs]
        split
        · omega
        · exact h9 k (by omega) hr
  · rw [if_neg hc]
    refine ⟨h1, h2, h3, h4, h5, fun r hr => ?_, h7, h8, h9.elim .inl fun h9 => ?_⟩
    · obtain ⟨a, b, c, d⟩ := h6 r hr
      exact ⟨a, by omega, c, d⟩
    · by_cases hk : rk ≤ (cs.getD i pc0).1
      · have : mn = 0 := by have : ¬ 0 < mn := fun z => hc ⟨hk, z⟩; omega
        rcases hm3 with e | e
        · exact .inl (by show wt = 0; omega)
        · refine .inr fun k hkk hr => ?_
          by_cases e2 : k = i
          · subst e2; show lf.getD k 0 = 0; omega
          · exact h9 k (by omega) hr
      · refine .inr fun k hkk hr => ?_
        by_cases e2 : k = i
        · subst e2; exact absurd hr hk
        · exact h9 k (by omega) hr
theorem made_all {cs os : List Pc} {o : Nat} {l0 : List Int} (hw : 0 ≤ (os.getD o pc0).2) (hl : ∀ k, 0 ≤ l0.getD k 0) : ∀ i, i ≤ l0.length → MadeI cs o (os.getD o pc0).1 l0 (os.getD o pc0).2 i (madeF cs os o l0 i)
  | 0, _ => made_start hw hl
  | i + 1, h => by
    rw [madeF_one]
    exact made_step (made_all hw hl i (by omega)) (by omega)
theorem MadeI.min {cs : List Pc} {o : Nat} {rk : Int} {l0 : List Int} {w : Int} {s : List Int × Int × List Rw} (h : MadeI cs o rk l0 w l0.length s) : sumR s.2.2 ≤ w ∧ sumR s.2.2 ≤ avF cs rk l0 l0.length ∧ (sumR s.2.2 = w ∨ sumR s.2.2 = avF cs rk l0 l0.length) := by
  have a := h.av rk (Int.le_refl _)
  have b := h.wm
  have c := h.w0
  have d : 0 ≤ avF cs rk s.1 l0.length := sg_nonneg fun k _ => by
    have := h.nn k
    split <;> omega
  refine ⟨by omega, by omega, h.out.elim (fun z => .inl (by omega)) fun z => .inr ?_⟩
  have : avF cs rk s.1 l0.length = 0 := sg_zero fun k hk => by
    split
    · rename_i q; exact z k hk q
    · rfl
  omega
/-- what the first orders of a row of them come to, of a rank and more -/
def ordS (os : List Pc) (r : Int) (l : List Nat) : Int := (l.map (gF os r)).sum
def ordA (os : List Pc) (l : List Nat) : Int := (l.map fun j => (os.getD j pc0).2).sum
structure ShI (cs os : List Pc) (l : List Nat) (s : List Int × List Rw) : Prop where
  len : s.1.length = cs.length
  nn : ∀ k, 0 ≤ s.1.getD k 0
  up : ∀ k, s.1.getD k 0 = (cs.getD k pc0).2 - crS s.2 k
  rows : ∀ r ∈ s.2, r.1 ∈ l ∧ r.2.1 < cs.length ∧ (os.getD r.1 pc0).1 ≤ (cs.getD r.2.1 pc0).1 ∧ 1 ≤ r.2.2
  two : s.2.Pairwise fun a b => (a.1, a.2.1) ≠ (b.1, b.2.1)
  ors : ∀ o, o ∈ l → orS s.2 o ≤ (os.getD o pc0).2
  av : ∀ r, (∀ j ∈ l, r ≤ (os.getD j pc0).1) → avF cs r s.1 cs.length = abvF cs r - sumR s.2
  low : 0 ≤ ordA os l - sumR s.2
  c1 : ∀ r, ordS os r l - abvF cs r ≤ ordA os l - sumR s.2
  c2 : ordA os l - sumR s.2 = 0 ∨ ∃ j ∈ l, ordA os l - sumR s.2 = ordS os (os.getD j pc0).1 l - abvF cs (os.getD j pc0).1
theorem fs_none {p : Rw → Bool} {rs : List Rw} (h : ∀ r ∈ rs, p r = false) : ((rs.filter p).map fun r => r.2.2).sum = 0 := by
  have : rs.filter p = [] := List.filter_eq_nil_iff.mpr fun r hr => by rw [h r hr]; exact Bool.false_ne_true
  rw [this]; rfl
theorem fs_all {p : Rw → Bool} {rs : List Rw} (h : ∀ r ∈ rs, p r = true) : ((rs.filter p).map fun r => r.2.2).sum = sumR rs := by
  rw [List.filter_eq_self.mpr h]; rfl
theorem sh_start {cs os : List Pc} (hc : ∀ p ∈ cs, PcOk p) : ShI cs os [] (cs.map (·.2), []) := by
  have g : ∀ k, (cs.map (·.2)).getD k 0 = (cs.getD k pc0).2 := fun k => by
    rw [List.getD_eq_getElem?_getD, List.getD_eq_getElem?_getD, List.getElem?_map]
    cases cs[k]? <;> rfl
  have n : ∀ k, 0 ≤ (cs.getD k pc0).2 := fun k => by
    rw [List.getD_eq_getElem?_getD]
    cases e : cs[k]? with
    | none => exact Int.le_refl 0
    | some p => exact (hc p (List.mem_of_getElem? e)).2.2.1
  refine ⟨List.length_map _, fun k => by rw [g]; exact n k, fun k => by rw [g]; show _ = _ - 0; omega, fun r h => (List.not_mem_nil h).elim, .nil, fun o h => (List.not_mem_nil h).elim, fun r _ => ?_, Int.le_refl 0, fun r => ?_, .inl rfl⟩
  · show avF cs r (cs.map (·.2)) cs.length = abvF cs r - 0
    rw [abv_sg]
    unfold avF
    rw [sg_congr (g := gF cs r) fun k hk => by rw [g]; rfl]
    omega
  · show 0 - abvF cs r ≤ 0 - 0
    have : 0 ≤ abvF cs r := by
      rw [abv_sg]
      exact sg_nonneg fun k _ => by
        unfold gF
        have := n k
        split <;> omega
    omega
theorem abv_mono {cs : List Pc} (hc : ∀ k, 0 ≤ (cs.getD k pc0).2) {r r' : Int} (h : r ≤ r') : abvF cs r' ≤ abvF cs r := by
  rw [abv_sg, abv_sg]
  refine sg_le fun k _ => ?_
  have := hc k
  unfold gF
  split <;> split <;> omega
theorem ordS_all {os : List Pc} {r : Int} : ∀ {l : List Nat}, (∀ j ∈ l, r ≤ (os.getD j pc0).1) → ordS os r l = ordA os l
  | [], _ => rfl
  | j :: l, h => by
    have ih := ordS_all (l := l) fun x hx => h x (List.mem_cons_of_mem _ hx)
    unfold ordS ordA at ih ⊢
    rw [List.map_cons, List.map_cons, List.sum_cons, List.sum_cons, ih]
    have : gF os r j = (os.getD j pc0).2 := if_pos (h j List.mem_cons_self)
    rw [this]
theorem ordS_app {os : List Pc} {r : Int} (l : List Nat) (o : Nat) : ordS os r (l ++ [o]) = ordS os r l + gF os r o := by
  unfold ordS
  rw [List.map_append, sum_app]; simp
theorem ordA_app {os : List Pc} (l : List Nat) (o : Nat) : ordA os (l ++ [o]) = ordA os l + (os.getD o pc0).2 := by
  unfold ordA
  rw [List.map_append, sum_app]; simp
theorem sh_step {cs os : List Pc} {l : List Nat} {s : List Int × List Rw} {o : Nat} (h : ShI cs os l s) (hc : ∀ k, 0 ≤ (cs.getD k pc0).2) (hw : 0 ≤ (os.getD o pc0).2) (no : o ∉ l) (hle : ∀ j ∈ l, (os.getD o pc0).1 ≤ (os.getD j pc0).1) : ShI cs os (l ++ [o]) (shStep cs os s o) := by
  obtain ⟨lf, rs⟩ := s
  obtain ⟨h1, h2, h3, h4, h5, h6, h7, h8, h9, h10⟩ := h
  dsimp only at h1 h2 h3 h4 h5 h6 h7 h8 h9 h10
  have M := made_all (cs := cs) (os := os) (o := o) (l0 := lf) hw h2 lf.length (Nat.le_refl _)
  unfold shStep
  dsimp only
  rw [h1] at M
  generalize madeF cs os o lf cs.length = m at M ⊢
  obtain ⟨ml, mw, mr⟩ := m
  rw [← h1] at M
  have M3 := M.min
  obtain ⟨m1, m2, m3, m4, m5, m6, m7, m8, m9⟩ := M
  dsimp only at m1 m2 m3 m4 m5 m6 m7 m8 m9 M3
  obtain ⟨q1, q2, q3⟩ := M3
  have sr : sumR (rs ++ mr) = sumR rs + sumR mr := sumR_app _ _
  have ra := h7 (os.getD o pc0).1 hle
  rw [h1] at q2 q3 m8
  have nrs : orS rs o = 0 := fs_none fun r hr => decide_eq_false fun z => no (by rw [← z]; exact (h4 r hr).1)
  have nmr : orS mr o = sumR mr := fs_all fun r hr => decide_eq_true (m6 r hr).1
  have oA := ordA_app (os := os) l o
  have hS0 : 0 ≤ avF cs (os.getD o pc0).1 lf cs.length := sg_nonneg fun k _ => by
    have := h2 k
    split <;> omega
  have hS : 0 ≤ sumR mr := by omega
  refine ⟨by show ml.length = _; omega, m4, fun k => ?_, fun r hr => ?_, ?_, fun x hx => ?_, fun r hr => ?_, ?_, fun r => ?_, ?_⟩
  · show ml.getD k 0 = _ - crS (rs ++ mr) k
    have e : crS (rs ++ mr) k = crS rs k + crS mr k := fs_app _ _
    have := h3 k
    have := m5 k
    omega
  · rcases List.mem_append.mp hr with h | h
    · obtain ⟨a, b, c, d⟩ := h4 r h
      exact ⟨List.mem_append_left _ a, b, c, d⟩
    · obtain ⟨a, b, c, d⟩ := m6 r h
      exact ⟨List.mem_append_right _ (by rw [a]; simp), by omega, by rw [a]; exact c, d⟩
  · refine List.pairwise_append.mpr ⟨h5, m7.imp fun h z => ?_, fun a ha b hb z => ?_⟩
    · have := (Prod.mk.inj z).2
      omega
    · have e := (Prod.mk.inj z).1
      rw [(m6 b hb).1] at e
      exact no (by rw [← e]; exact (h4 a ha).1)
  · show orS (rs ++ mr) x ≤ _
    have e : orS (rs ++ mr) x = orS rs x + orS mr x := fs_app _ _
    rcases List.mem_append.mp hx with h | h
    · have := h6 x h
      have e2 : orS mr x = 0 := fs_none fun r hr => decide_eq_false fun z => no (by rw [← (m6 r hr).1, z]; exact h)
      omega
    · have e2 := List.mem_singleton.mp h
      subst e2
      omega
  · show avF cs r ml cs.length = abvF cs r - sumR (rs ++ mr)
    have r1 := h7 r fun j hj => hr j (List.mem_append_left _ hj)
    have r2 := m8 r (hr o (List.mem_append_right _ (by simp)))
    omega
  · show 0 ≤ ordA os (l ++ [o]) - sumR (rs ++ mr)
    omega
  · show ordS os r (l ++ [o]) - abvF cs r ≤ ordA os (l ++ [o]) - sumR (rs ++ mr)
    by_cases hr : r ≤ (os.getD o pc0).1
    · have e : ordS os r (l ++ [o]) = ordA os (l ++ [o]) := ordS_all fun j hj => (List.mem_append.mp hj).elim (fun h => Int.le_trans hr (hle j h)) fun h => by rw [List.mem_singleton.mp h]; exact hr
      have := abv_mono hc hr
      omega
    · have e := ordS_app (os := os) (r := r) l o
      have e2 : gF os r o = 0 := if_neg hr
      have := h9 r
      omega
  · show ordA os (l ++ [o]) - sumR (rs ++ mr) = 0 ∨ ∃ j ∈ l ++ [o], ordA os (l ++ [o]) - sumR (rs ++ mr) = ordS os (os.getD j pc0).1 (l ++ [o]) - abvF cs (os.getD j pc0).1
    have eo : ordS os (os.getD o pc0).1 (l ++ [o]) = ordA os (l ++ [o]) := ordS_all fun j hj => (List.mem_append.mp hj).elim (fun h => hle j h) fun h => by rw [List.mem_singleton.mp h]; exact Int.le_refl _
    by_cases hq : sumR mr = avF cs (os.getD o pc0).1 lf cs.length
    · refine .inr ⟨o, List.mem_append_right _ (by simp), ?_⟩
      rw [eo]
      omega
    · have hq2 : sumR mr = (os.getD o pc0).2 := q3.resolve_right hq
      rcases h10 with z | ⟨j, hj, z⟩
      · exact .inl (by omega)
      · have e := ordS_app (os := os) (r := (os.getD j pc0).1) l o
        by_cases hjo : (os.getD j pc0).1 ≤ (os.getD o pc0).1
        · have e3 : (os.getD j pc0).1 = (os.getD o pc0).1 := by have := hle j hj; omega
          have e4 : ordS os (os.getD o pc0).1 l = ordA os l := ordS_all hle
          rw [e3] at z e
          exfalso
          omega
        · have e2 : gF os (os.getD j pc0).1 o = 0 := if_neg hjo
          exact .inr ⟨j, List.mem_append_left _ hj, by omega⟩
theorem ord_perm (os : List Pc) : (ordF os).Perm (List.range os.length) := List.mergeSort_perm _ _
theorem ord_pair (os : List Pc) : (ordF os).Pairwise fun i j => (os.getD j pc0).1 ≤ (os.getD i pc0).1 := by
  have h := List.pairwise_mergeSort (le := fun i j : Nat => decide (-(os.getD i pc0).1 ≤ -(os.getD j pc0).1)) (fun a b c h1 h2 => by simp only [decide_eq_true_eq] at h1 h2 ⊢; omega) (fun a b => by simp only [Bool.or_eq_true, decide_eq_true_eq]; omega) (List.range os.length)
  exact h.imp fun z => by simp only [decide_eq_true_eq] at z; omega
theorem sh_all {cs os : List Pc} (hc : ∀ p ∈ cs, PcOk p) (ho : ∀ p ∈ os, PcOk p) : ∀ i, i ≤ os.length → ShI cs os ((ordF os).take i) (shF cs os i)
  | 0, _ => sh_start hc
  | i + 1, h => by
    have ln : (ordF os).length = os.length := by rw [(ord_perm os).length_eq, List.length_range]
    have hi : i < (ordF os).length := by omega
    have g : (ordF os)[i]? = some (ordF os)[i] := List.getElem?_eq_getElem hi
    rw [shF_one g, List.take_add_one, g, Option.toList_some]
    have ps := ord_pair os
    have nd : (ordF os).Nodup := (ord_perm os).nodup_iff.mpr List.nodup_range
    have sp : ordF os = (ordF os).take i ++ (ordF os)[i] :: (ordF os).drop (i + 1) := by
      rw [← List.drop_eq_getElem_cons hi, List.take_append_drop]
    have gd : ∀ {ps : List Pc}, (∀ p ∈ ps, PcOk p) → ∀ k, 0 ≤ (ps.getD k pc0).2 := fun {ps} h k => by
      rw [List.getD_eq_getElem?_getD]
      cases e : ps[k]? with
      | none => exact Int.le_refl 0
      | some p => exact (h p (List.mem_of_getElem? e)).2.2.1
    refine sh_step (sh_all hc ho i (by omega)) (gd hc) (gd ho _) (fun z => ?_) fun j hj => ?_
    · rw [sp] at nd
      exact (List.nodup_append.mp nd).2.2 _ z _ List.mem_cons_self rfl
    · rw [sp] at ps
      exact (List.pairwise_append.mp ps).2.2 _ hj _ List.mem_cons_self
theorem range_sum (f : Nat → Int) : ∀ n, ((List.range n).map f).sum = sg f n
  | 0 => rfl
  | n + 1 => by rw [List.range_succ, List.map_append, sum_app, range_sum f n]; show _ + (f n + 0) = _ + _; omega
theorem all_sum : ∀ ps : List Pc, (ps.map (·.2)).sum = sg (fun k => (ps.getD k pc0).2) ps.length := fun ps => by
  have e : ps.map (·.2) = (List.range ps.length).map fun k => (ps.getD k pc0).2 := by
    refine List.ext_getElem? fun k => ?_
    rw [List.getElem?_map, List.getElem?_map]
    by_cases hk : k < ps.length
    · rw [List.getElem?_range hk, List.getElem?_eq_getElem hk]
      show some _ = some (ps.getD k pc0).2
      rw [List.getD_eq_getElem?_getD, List.getElem?_eq_getElem hk]; rfl
    · rw [List.getElem?_eq_none (by omega), List.getElem?_eq_none (by simpa using hk)]; rfl
  rw [e, range_sum]
/-- what shared tells of crews and orders -/
structure ShT (cs os : List Pc) (rs : List Rw) (lack : Int) : Prop where
  rows : ∀ r ∈ rs, r.1 < os.length ∧ r.2.1 < cs.length ∧ (os.getD r.1 pc0).1 ≤ (cs.getD r.2.1 pc0).1 ∧ 1 ≤ r.2.2
  two : rs.Pairwise fun a b => (a.1, a.2.1) ≠ (b.1, b.2.1)
  crs : ∀ k, crS rs k ≤ (cs.getD k pc0).2
  ors : ∀ o, o < os.length → orS rs o ≤ (os.getD o pc0).2
  low : 0 ≤ lack
  lk : (os.map (·.2)).sum - sumR rs = lack
  c1 : ∀ r, abvF os r - abvF cs r ≤ lack
  c2 : lack = 0 ∨ ∃ j, j < os.length ∧ lack = abvF os (os.getD j pc0).1 - abvF cs (os.getD j pc0).1
theorem sh_told {cs os : List Pc} (hc : ∀ p ∈ cs, PcOk p) (ho : ∀ p ∈ os, PcOk p) : ShT cs os (rowsF cs os) (lackingF cs os) := by
  have S := sh_all hc ho os.length (Nat.le_refl _)
  have ln : (ordF os).length = os.length := by rw [(ord_perm os).length_eq, List.length_range]
  rw [List.take_of_length_le (by omega)] at S
  have mem : ∀ {j}, j ∈ ordF os ↔ j < os.length := fun {j} => by rw [(ord_perm os).mem_iff, List.mem_range]
  have eS : ∀ r, ordS os r (ordF os) = abvF os r := fun r => by
    unfold ordS
    rw [perm_sum ((ord_perm os).map (gF os r)), range_sum, abv_sg]
  have eA : ordA os (ordF os) = (os.map (·.2)).sum := by
    unfold ordA
    rw [perm_sum ((ord_perm os).map fun j => (os.getD j pc0).2), range_sum, all_sum]
  obtain ⟨h1, h2, h3, h4, h5, h6, h7, h8, h9, h10⟩ := S
  rw [eA] at h8 h9 h10
  refine ⟨fun r hr => ?_, h5, fun k => ?_, fun o h => h6 o (mem.mpr h), h8, rfl, fun r => ?_, ?_⟩
  · obtain ⟨a, b⟩ := h4 r hr
    exact ⟨mem.mp a, b⟩
  · have := h2 k
    have := h3 k
    show crS (shF cs os os.length).2 k ≤ _
    omega
  · have := h9 r
    rw [eS] at this
    exact this
  · rcases h10 with z | ⟨j, hj, z⟩
    · exact .inl z
    · refine .inr ⟨j, mem.mp hj, ?_⟩
      rw [eS] at z
      exact z

theorem sm_lists {H H' : Hp} {S : List Addr} (h : ∀ s ∈ S, ∃ xs, H s = some (.lst xs)) (s : Sm S H H') {b : Addr} {o : HO} (e : H b = some o) (n : ∀ xs, o ≠ .lst xs) : H' b = some o := sm_at s (fun hb => by
  obtain ⟨xs, e2⟩ := h b hb
  rw [e] at e2
  exact n xs (Option.some.inj e2)) e
theorem nl_sm {H H' : Hp} {S : List Addr} (h : ∀ s ∈ S, ∃ xs, H s = some (.lst xs)) (s : Sm S H H') : Nl H H' := fun _ _ e n _ => sm_lists h s e n
theorem tabs_sm {T : List (Addr × Str)} {H H' : Hp} {S : List Addr} (h : ∀ s ∈ S, ∃ xs, H s = some (.lst xs)) (s : Sm S H H') (t : LamX.Tabs T H) : LamX.Tabs T H' := fun p hp => by
  obtain ⟨ps, h1, h2, h3⟩ := t p hp
  exact ⟨ps, sm_lists h s h1 (fun xs z => by cases z), h2, fun pos cv hc => (h3 pos cv hc).imp fun c z => ⟨z.1, sm_lists h s z.2 (fun xs q => by unfold LamX.CodeO at q; cases q)⟩⟩
theorem extN_sm {H H1 H2 : Hp} {S : List Addr} (x : LamX.ExtN H H1) (s : Sm S H1 H2) (f : ∀ s ∈ S, H s = none) : LamX.ExtN H H2 := fun b o e n => sm_at s (fun hb => by rw [f b hb] at e; cases e) (x b o e n)
theorem same_free {H H' : Hp} (s : Same H H') {b : Addr} (h : H' b = none) : H b = none := by
  cases e : H b with
  | none => rfl
  | some o => rw [s _ _ e] at h; cases h
theorem sqL_nl {H H' : Hp} {S : List Addr} {c : Addr} {xs : List V} (s : Sm S H H') (n : c ∉ S) (h : SqL K H c xs) : SqL K H' c xs := by
  rcases h with (h | ⟨o, h⟩) | h
  · exact .inl (.inl (sm_at s n h))
  · exact .inl (.inr ⟨o, sm_at s n h⟩)
  · exact .inr h
theorem rw_at {H : Hp} {xs : List V} {rs : List Rw} (h : DpAll K H xs (rs.map rwD)) {i : Nat} {v : V} (g : xs[i]? = some v) : ∃ (a : Addr) (r : Rw), v = .ref a ∧ SqT K H a [.int (r.1 : Int), .int (r.2.1 : Int), .int r.2.2] ∧ rs[i]? = some r := by
  obtain ⟨r, gr, dr⟩ := dpAll_map_at h g
  obtain ⟨a, ts, rfl, ht, dts⟩ := dp_tup dr
  obtain ⟨x, y, z, rfl, d1, d2, d3⟩ := dp_three dts
  rw [dp_int d1, dp_int d2, dp_int d3] at ht
  exact ⟨a, r, rfl, ht, gr⟩
theorem sh_lr {cs os : List Pc} (hc : ∀ p ∈ cs, PcOk p) (ho : ∀ p ∈ os, PcOk p) : lackingF cs os ≠ 0 → ∃ p ∈ os, lackF cs os p.1 = lackingF cs os := fun n => by
  have S := sh_told hc ho
  rcases S.c2 with z | ⟨j, hj, z⟩
  · exact absurd z n
  · have e : os.getD j pc0 = os[j] := by rw [List.getD_eq_getElem?_getD, List.getElem?_eq_getElem hj]; rfl
    refine ⟨os[j], List.getElem_mem hj, ?_⟩
    rw [e] at z
    have := S.low
    unfold lackF
    omega
def qShared : Str := ("shared" : Str) ++ (".<locals>." : Str) ++ ("<lambda>" : Str)
def sortR (rs : List Rw) : List Rw := rs.mergeSort (PySem.W.dataLe false rwD)
def spShared (K : PySem.W.Frag) (Pt : Addr) : Sp := fun vs H Q _ => ∃ (c o : Addr) (xs ys : List V) (cs os : List Pc), vs = [.ref c, .ref o] ∧ SqL K H c xs ∧ SqL K H o ys ∧ DpAll K H xs (cs.map pcD) ∧ DpAll K H ys (os.map pcD) ∧ cs.length ≤ 20 ∧ os.length ≤ 20 ∧ (∀ p ∈ cs, PcOk p) ∧ (∀ p ∈ os, PcOk p) ∧ (∀ l, H l = none → c ≠ l) ∧ (∀ l, H l = none → o ≠ l) ∧ LamX.Tabs [(Pt, qShared)] H ∧
  ∀ (H' : Hp) (t R : Addr) (zs : List V), LamX.ExtN H H' → LamX.Tabs [(Pt, qShared)] H' → (∀ x u, H x = some u → (∀ ps, u ≠ .tbl ps) → x ≠ R) → H' t = some (.tup [.ref R, .int (lackingF cs os), opV (lrF cs os (lackingF cs os))]) → H' R = some (.lst zs) → DpAll K H' zs ((sortR (rowsF cs os)).map rwD) → zs.length ≤ 400 → Q (.ref t) H'
abbrev s_shared : Stmt := topS 5
def n_shared : List Str := ["crews", "orders", "left", "rows", "order", "lacking", "rank", "pieces", "many", "row"]
theorem sc_shared : FnScope n_shared ["crews", "orders"] (defScope s_shared) := ⟨rfl, rfl, rfl, by decide +kernel, rfl, by decide +kernel, by decide +kernel⟩
set_option maxHeartbeats 2000000 in
theorem ok_shared {f cd0 Pt : Addr} {fd : FuncData} {k : Nat} (F : Fun K "shared" "shared" s_shared f fd) (hcd : fd.code = .ref cd0) (T : Txt mg) (TB : LamX.TabB base mg cd0 Pt) (c_made_of : Cl P w K mg base (k + 1) "made_of" (spMade K)) (c_lacking_rank : Cl P w K mg base (k + 3) "lacking_rank" (spLr K)) : FnOk P w K mg base CX0 (k + 4) f fd ["crews", "orders"] (spShared K Pt) := by
  refine okC F hcd sc_shared (fun vs H Q E h => ?_) (fun A outer s H vs Q E hr h => ?_)
  · obtain ⟨c, o, xs, ys, cs, os, rfl, _⟩ := h
    rfl
  · obtain ⟨c, o, xs, ys, cs, os, rfl, hC, hO, dc, dO, lc, lo, kc, ko, nc, no, tbs, q⟩ := h
    have nd := sc_shared.nd
    have hu70 : (A.deeper (envOfC (Str.ofString "shared") (defScope s_shared) s.heap.objs.size f (.ref cd0))).units + 70 < cLine := by have := hr.un; omega
    have hmT : (Pt, qShared) ∈ [(Pt, qShared)] := List.mem_singleton.mpr rfl
    have huT : ∀ p ∈ [(Pt, qShared)], p.1 = Pt → p.2 = qShared := fun p hp _ => by rw [List.mem_singleton.mp hp]
    have lx : xs.length = cs.length := dpAll_map_len dc
    have ly : ys.length = os.length := dpAll_map_len dO
    /- 0 crews, 1 orders, 2 left, 3 rows, 4 order, 5 lacking, 6 rank, 7 pieces, 8 many, 9 row -/
    refine ⟨_, (pss_cons (ps_setLc (i := 2) (own := [("rank", 6), ("pieces", 7)]) rfl nd rfl rfl (sw_true rfl rfl rfl (by decide +kernel)) (ki_list (K := K) (pv 0)) (blkOk_by (N := n_shared) (sc := defScope s_shared) (by decide +kernel)) (fun _ _ _ _ _ => (kg_tup (K := K) (n := 2) (pgs_cons (pg_name (i := 6) nd rfl (.inl rfl)) (pgs_cons (pg_name (i := 7) nd rfl (.inl rfl)) pgs_nil)))) (fun _ _ _ _ _ => pts_nil) (fun _ _ _ _ _ => (pv 7)))
      (pss_cons (ps_set (i := 3) nd rfl (.inl rfl) (pe_lst pa_nil))
      (pss_cons (ps_for PassesOwn.never rfl (ki_list (K := K) (RLam.pe_sortLam (io := 1) rfl (by rfl) T.sorted (pa_cons (pe_callTy RLam.cr_range1 (by rfl) T.range (by decide +kernel) (pa_cons (pe_callB (kc_len (K := K)) (by rfl) T.len PySem.boot_len (pa_cons (pv 1) pa_nil)) pa_nil)) pa_nil) TB rfl hmT huT hr ⟨rfl, rfl, rfl, by decide +kernel, rfl, rfl, up_by (sc := defScope s_shared) (by decide +kernel)⟩ rfl rfl (fun _ _ _ _ _ _ => rfl))) (pg_name (i := 4) nd rfl (.inl rfl))
          (pss_one (ps_expr (pe_bm PySem.F.plainAttrs_list PySem.F.slot_list_extend PySem.F.type_list_extend mt_extend (pv 3) (pa_cons (pe_cl c_made_of hr (by omega) (by rfl) (pa_cons (pv 0) (pa_cons (pv 1) (pa_cons (pv 4) (pa_cons (pv 2) pa_nil))))) pa_nil)))))
      (pss_cons (ps_set (i := 5) nd rfl (.inl rfl) (pe_op op_sub (pe_callB (kc_sum (K := K)) (by rfl) T.sum (by decide +kernel) (pa_cons (pe_lc (own := [("rank", 6), ("many", 8)]) rfl nd (ki_list (K := K) (pv 1)) (blkOk_by (N := n_shared) (sc := defScope s_shared) (by decide +kernel)) (fun _ _ _ _ _ => (kg_tup (K := K) (n := 2) (pgs_cons (pg_name (i := 6) nd rfl (.inl rfl)) (pgs_cons (pg_name (i := 8) nd rfl (.inl rfl)) pgs_nil)))) (fun _ _ _ _ _ => pts_nil) (fun _ _ _ _ _ => (pv 8))) pa_nil)) (pe_callB (kc_sum (K := K)) (by rfl) T.sum (by decide +kernel) (pa_cons (pe_lc (own := [("row", 9)]) rfl nd (ki_list (K := K) (pv 3)) (blkOk_by (N := n_shared) (sc := defScope s_shared) (by decide +kernel)) (fun _ _ _ _ _ => (pg_name (i := 9) nd rfl (.inl rfl))) (fun _ _ _ _ _ => pts_nil) (fun _ _ _ _ _ => (pe_ix (kx_tup (K := K)) (pv 9) pe_int (fun _ _ => rfl)))) pa_nil))))
      (pss_one (ps_ret (pe_tup (pa_cons (pe_callB (kc_sortedE (K := K) (enc := rwD) hu70 rw_al rw_tp rw_dep) (by rfl) T.sorted (by decide +kernel) (pa_cons (pv 3) pa_nil)) (pa_cons (pv 5) (pa_cons (pe_cl c_lacking_rank hr (by omega) (by rfl) (pa_cons (pv 0) (pa_cons (pv 1) (pa_cons (pv 5) pa_nil)))) pa_nil)))))))))), ?_⟩
    refine ⟨_, rfl, c, rfl, ⟨_, hC⟩, fun L nL => ?_⟩
    refine lc_it (walk_list (xs := xs)) (PvL H L fun i => ((cs.take i).map (·.2)).map V.int) (pv_start nL rfl) (fun i H4 _ h => h.1.seq hC) ?_ ?_
    · rintro i y H4 H5 hi p ⟨rfl, gx⟩
      obtain ⟨b, rfl, hb, hi2, _⟩ := pcs_at (dpAll_same p.1 dc) gx
      have gp : cs[i]? = some (cs.getD i pc0) := by rw [List.getD_eq_getElem?_getD, List.getElem?_eq_getElem hi2]; rfl
      generalize cs.getD i pc0 = pr at hb gp
      refine ⟨b, _, rfl, hb, rfl, _, _, rfl, _, _, rfl, rfl, rfl, tYes_at ?_⟩
      rw [if_pos rfl]
      refine ⟨_, rfl, pv_put nL p (Same.refl _) (by rw [List.take_add_one, gp, List.map_append, List.map_append]; rfl) ?_⟩
      rw [List.length_map, List.length_map, List.length_take, sizeLine_eq]; omega
    intro H2 p
    obtain ⟨s2, hL⟩ := pv_end p (show _ = (cs.map (·.2)).map V.int by rw [lx, List.take_length])
    have tbs2 : LamX.Tabs [(Pt, qShared)] H2 := tbs.ext s2
    have hC := s2.seq hC
    have hO := s2.seq hO
    have dc := dpAll_same s2 dc
    have dO := dpAll_same s2 dO
    have x2 : LamX.ExtN H H2 := .of s2
    clear p
    refine ⟨Nat.zero_le _, fun R nR => ?_⟩
    have LR : L ≠ R := ne_of_none hL nR
    have s3 := same_upd (o := .lst []) nR
    have hC := s3.seq hC
    have hO := s3.seq hO
    have dc := dpAll_same s3 dc
    have dO := dpAll_same s3 dO
    have tbs3 := tbs2.ext s3
    have hL := s3 _ _ hL
    have hR : upd H2 R (.lst []) R = _ := upd_same
    have nR0 : H R = none := same_free s2 nR
    have x3 : LamX.ExtN H (upd H2 R (.lst [])) := x2.trans (.of s3)
    generalize upd H2 R (.lst []) = H3 at hC hO dc dO tbs3 hL hR x3 ⊢
    have est : (((L2.start n_shared [V.ref c, V.ref o]).set 2 (some (V.ref L))).set 3 (some (V.ref R))) = [some (.ref c), some (.ref o), some (.ref L), some (.ref R), none, none, none, none, none, none] := rfl
    show tSeq _ _ _ (((L2.start n_shared [V.ref c, V.ref o]).set 2 (some (V.ref L))).set 3 (some (V.ref R))) _
    rw [est]
    refine ⟨_, rfl, _, _, rfl, .inl ⟨_, hO, rfl⟩, _, rfl, fun rp nrp => ?_⟩
    have sr := same_upd (o := .rng 0 (ys.length : Int)) nrp
    rw [ly] at sr ⊢
    refine ⟨rp, o, os.length, ys, fun i => (os.getD i pc0).1, rfl, upd_same, Nat.le_trans lo (by decide), tbs3.ext sr, rfl, sr.seq hO, fun i hi => ?_, fun H4 x4 tbs4 q0 nq0 => ?_⟩
    · obtain ⟨b, eb, hb, _⟩ := pcs_at (dpAll_same sr dO) (List.getElem?_eq_getElem (show i < ys.length by omega))
      exact ⟨b, _, by rw [List.getElem?_eq_getElem (show i < ys.length by omega), eb], hb, rfl⟩
    replace x4 : LamX.ExtN H3 H4 := (LamX.ExtN.of sr).trans x4
    have nl4 := Nl.ext x4
    have hC := RLam.sqL_ext hC x4
    have hO := RLam.sqL_ext hO x4
    have dc := pcs_nl nl4 dc
    have dO := pcs_nl nl4 dO
    have hL := x4 _ _ hL (fun ps z => by cases z)
    have hR := x4 _ _ hR (fun ps z => by cases z)
    have x5 : LamX.ExtN H H4 := x3.trans x4
    have qL : L ≠ q0 := ne_of_none hL nq0
    have qR : R ≠ q0 := ne_of_none hR nq0
    have s5 := same_upd (o := .lst ((ordF os).map fun i : Nat => V.int (i : Int))) nq0
    have tbs5 := tbs4.ext s5
    have hC := s5.seq hC
    have hO := s5.seq hO
    have dc := dpAll_same s5 dc
    have dO := dpAll_same s5 dO
    have hL := s5 _ _ hL
    have hR := s5 _ _ hR
    have hq : upd H4 q0 (.lst ((ordF os).map fun i : Nat => V.int (i : Int))) q0 = _ := upd_same
    have x5 : LamX.ExtN H (upd H4 q0 (.lst ((ordF os).map fun i : Nat => V.int (i : Int)))) := x5.trans (.of s5)
    clear s3 sr nrp tbs3 tbs4 x3 x4 nl4 tbs2 x2 s2
    have eord : ((List.range os.length).mergeSort fun i j => decide (-(fun i => (os.getD i pc0).1) i ≤ -(fun i => (os.getD i pc0).1) j)).map (fun i : Nat => V.int (i : Int)) = (ordF os).map fun i : Nat => V.int (i : Int) := rfl
    refine ⟨q0, rfl, ⟨_, SqL.of upd_same⟩, ?_⟩
    rw [eord]
    generalize upd H4 q0 (.lst ((ordF os).map fun i : Nat => V.int (i : Int))) = H5 at hC hO dc dO hL hR tbs5 hq x5 ⊢
    have lord : (ordF os).length = os.length := by rw [(ord_perm os).length_eq, List.length_range]
    have LS : ∀ s ∈ [L, R], ∃ xs, H5 s = some (.lst xs) := fun s hs => by
      rcases List.mem_cons.mp hs with rfl | hs
      · exact ⟨_, hL⟩
      · rw [List.mem_singleton.mp hs]; exact ⟨_, hR⟩
    have Lc : c ∉ [L, R] := by simp [nc L nL, nc R nR0]
    have Lo : o ∉ [L, R] := by simp [no L nL, no R nR0]
    refine for_it (walk_list (xs := (ordF os).map fun i : Nat => V.int (i : Int))) (fun i σ H6 => ∃ v4 us, σ = [some (.ref c), some (.ref o), some (.ref L), some (.ref R), v4, none, none, none, none, none] ∧ Sm [L, R] H5 H6 ∧ H6 L = some (.lst ((shF cs os i).1.map V.int)) ∧ (shF cs os i).1.length = cs.length ∧ H6 R = some (.lst us) ∧ DpAll K H6 us ((shF cs os i).2.map rwD) ∧ us.length ≤ 20 * i)
      ⟨_, [], rfl, Same.refl _, hL, List.length_map _, hR, .nil, Nat.le_refl _⟩ (fun i σ H6 _ h => by
        obtain ⟨_, _, _, sm, _⟩ := h
        exact SqL.of (sm_at sm (by simp [Ne.symm qL, Ne.symm qR]) hq)) ?_ ?_
    · rintro i x σ H6 H7 hi ⟨v4, us, rfl, sm, hL2, ll, hR2, du, lu⟩ ⟨rfl, gx⟩
      rw [List.getElem?_map] at gx
      obtain ⟨n, gn, rfl⟩ := Option.map_eq_some_iff.mp gx
      rw [shF_one gn]
      have hn : n < os.length := by
        have := (ord_perm os).mem_iff.mp (List.mem_of_getElem? gn)
        rwa [List.mem_range] at this
      have hi20 : i < 20 := by
        have := (List.getElem?_eq_some_iff.mp gn).1
        omega
      generalize shF cs os i = st at hL2 ll du ⊢
      obtain ⟨lf, rs⟩ := st
      have nl := nl_sm LS sm
      refine ⟨_, rfl, .inl ⟨rfl, _, SqL.of hR2⟩, _, rfl, _, rfl, _, rfl, _, rfl, c, o, L, n, xs, ys, cs, os, lf, rfl, nc L nL, sqL_nl sm Lc hC, sqL_nl sm Lo hO, pcs_nl nl dc, pcs_nl nl dO, lc, lo, hn, hL2, ll, fun H8 Rm vs s8 nRm hRm hL8 ll8 dv lv => ?_⟩
      have RL : R ∉ [L] := by simp [Ne.symm LR]
      have hR8 := sm_at s8 RL hR2
      have nl8 := Nl.one s8 hL2
      have du8 := rws_nl nl8 du
      refine ⟨R, Rm, us, vs, rfl, rfl, hR8, hRm, (by rw [sizeLine_eq]; omega), ?_⟩
      have nlw := Nl.wr (o := .lst (us ++ vs)) hR8
      refine ⟨_, us ++ vs, rfl, ?_, by rw [upd_ne LR]; exact hL8, ll8, upd_same, ?_, by rw [List.length_append]; omega⟩
      · exact sm.trans ((sm_mono (by simp) s8).trans (sm_wr (by simp)))
      · show DpAll K _ (us ++ vs) ((rs ++ _).map rwD)
        rw [List.map_append]
        exact dpAll_app (rws_nl nlw du8) (rws_nl nlw dv)
    · rintro σ H6 ⟨v4, us, rfl, sm, hL2, ll, hR2, du, lu⟩
      have el : ((ordF os).map fun i : Nat => V.int (i : Int)).length = os.length := by rw [List.length_map, lord]
      rw [el] at hL2 ll du lu
      have nl := nl_sm LS sm
      have hC := sqL_nl sm Lc hC
      have hO := sqL_nl sm Lo hO
      have dc := pcs_nl nl dc
      have dO := pcs_nl nl dO
      have tb6 := tabs_sm LS sm tbs5
      have x6 : LamX.ExtN H H6 := extN_sm x5 sm fun s hs => by
        rcases List.mem_cons.mp hs with rfl | hs
        · exact nL
        · rw [List.mem_singleton.mp hs]; exact nR0
      clear hL hR hq
      have lus : us.length = (rowsF cs os).length := dpAll_map_len du
      refine ⟨_, rfl, o, rfl, ⟨_, hO⟩, fun D nD => ?_⟩
      refine lc_it (walk_list (xs := ys)) (PvL H6 D fun i => ((os.take i).map (·.2)).map V.int) (pv_start nD rfl) (fun i H4 _ h => h.1.seq hO) ?_ ?_
      · rintro i y H4 H5 hi p ⟨rfl, gx⟩
        obtain ⟨b, rfl, hb, hi2, _⟩ := pcs_at (dpAll_same p.1 dO) gx
        have gp : os[i]? = some (os.getD i pc0) := by rw [List.getD_eq_getElem?_getD, List.getElem?_eq_getElem hi2]; rfl
        generalize os.getD i pc0 = pr at hb gp
        refine ⟨b, _, rfl, hb, rfl, _, _, rfl, _, _, rfl, rfl, rfl, tYes_at ?_⟩
        rw [if_pos rfl]
        refine ⟨_, rfl, pv_put nD p (Same.refl _) (by rw [List.take_add_one, gp, List.map_append, List.map_append]; rfl) ?_⟩
        rw [List.length_map, List.length_map, List.length_take, sizeLine_eq]; omega
      intro H7 p
      obtain ⟨s7, hD⟩ := pv_end p (show _ = (os.map (·.2)).map V.int by rw [ly, List.take_length])
      clear p
      have hR7 := s7 _ _ hR2
      have hC := s7.seq hC
      have hO := s7.seq hO
      have dc := dpAll_same s7 dc
      have dO := dpAll_same s7 dO
      have du := dpAll_same s7 du
      have tb7 := tb6.ext s7
      have x7 : LamX.ExtN H H7 := x6.trans (.of s7)
      refine ⟨D, _, rfl, SqL.of hD, ?_⟩
      refine ⟨_, rfl, R, rfl, ⟨_, SqL.of hR7⟩, fun E2 nE => ?_⟩
      refine lc_it (walk_list (xs := us)) (PvL H7 E2 fun i => (((rowsF cs os).take i).map fun r => r.2.2).map V.int) (pv_start nE rfl) (fun i H4 _ h => h.1.seq (SqL.of hR7)) ?_ ?_
      · rintro i y H4 H5 hi p ⟨rfl, gx⟩
        obtain ⟨b, r, rfl, hb, gr⟩ := rw_at (dpAll_same p.1 du) gx
        refine ⟨rfl, tYes_at ?_⟩
        rw [if_pos rfl]
        refine ⟨_, rfl, b, _, 2, _, rfl, rfl, hb, rfl, pv_put nE p (Same.refl _) (by rw [List.take_add_one, show (rowsF cs os)[i]? = some r from gr, List.map_append, List.map_append]; rfl) ?_⟩
        rw [List.length_map, List.length_map, List.length_take, sizeLine_eq]; omega
      intro H8 p
      obtain ⟨s8, hE⟩ := pv_end p (show _ = ((rowsF cs os).map fun r => r.2.2).map V.int by rw [lus, List.take_length])
      clear p
      refine ⟨E2, _, rfl, SqL.of hE, _, _, rfl, rfl, ?_⟩
      have hR8 := s8 _ _ hR7
      have hC := s8.seq hC
      have hO := s8.seq hO
      have dc := dpAll_same s8 dc
      have dO := dpAll_same s8 dO
      have du := dpAll_same s8 du
      have tb8 := tb7.ext s8
      have x8 : LamX.ExtN H H8 := x7.trans (.of s8)
      clear x7 x6 x5 tb7 tb6 tbs5 s7 s8 sm nl hR7 hR2 hL2
      refine ⟨_, rfl, R, us, rowsF cs os, rfl, SqL.of hR8, du, fun zs p dz np => ?_⟩
      have sp := same_upd (o := .lst zs) np
      have dz : DpAll K (upd H8 p (.lst zs)) zs ((sortR (rowsF cs os)).map rwD) := dpAll_same sp dz
      have frs : ∀ x u, H x = some u → (∀ ps, u ≠ .tbl ps) → x ≠ p := fun x u e n z => by
        rw [z] at e
        rw [x8 _ _ e n] at np
        cases np
      have hp : upd H8 p (.lst zs) p = _ := upd_same
      refine ⟨_, rfl, _, rfl, _, rfl, _, rfl, c, o, xs, ys, cs, os, lackingF cs os, rfl, sp.seq hC, sp.seq hO, dpAll_same sp dc, dpAll_same sp dO, lc, lo, sh_lr kc ko, fun H9 s9 => ⟨(by show 3 ≤ sizeLine; decide), fun t nt => ?_⟩⟩
      have st := same_upd (o := .tup [.ref p, .int (lackingF cs os), opV (lrF cs os (lackingF cs os))]) nt
      exact q _ t p zs (x8.trans (.of fun b u e => st _ _ (s9 _ _ (sp _ _ e)))) (((tb8.ext sp).ext s9).ext st) frs upd_same (st _ _ (s9 _ _ hp)) (dpAll_same st (dpAll_same s9 dz)) (by rw [dpAll_map_len dz]; show (List.mergeSort _ _).length ≤ _; rw [List.length_mergeSort]; omega)

end
end Pot

namespace Pot
open PySem PySem.Spec PyProof.Rows L2
section
variable {P : Program} {w : World} {K : PySem.W.Frag} {mg : Str → Option Value} {base : Heap}
theorem iteY {c A B : Prop} [Decidable c] (h : c) (a : A) : if decide c = true then A else B := by
  rw [if_pos (decide_eq_true h)]; exact a
theorem iteN {c A B : Prop} [Decidable c] (h : ¬ c) (b : B) : if decide c = true then A else B := by
  rw [if_neg (fun z => h (of_decide_eq_true z))]; exact b
theorem dl3 (a b : Rw) : PySem.W.dataLt (rwD a) (rwD b) = decide ((a.1 : Int) < b.1 ∨ ((a.1 : Int) = b.1 ∧ ((a.2.1 : Int) < b.2.1 ∨ ((a.2.1 : Int) = b.2.1 ∧ a.2.2 < b.2.2)))) := by
  have hi : ∀ (x y : Int), PySem.W.alike (.int x) (.int y) = true := fun _ _ => rfl
  unfold rwD
  rw [PySem.W.dataLt_tuple, PySem.W.dataLt_cons (hi _ _), PySem.W.dataLt_cons (hi _ _), PySem.W.dataLt_cons (hi _ _), PySem.W.dataLt_int, PySem.W.dataLt_int, PySem.W.dataLt_int]
  have e : PyProof.Rows.lexLt PyProof.Rows.itemOrd (PySem.W.keyToksAll []) (PySem.W.keyToksAll []) = false := rfl
  rw [e]
  simp only [PyData.eqv, beq_iff_eq]
  by_cases h1 : (a.1 : Int) = b.1 <;> by_cases h2 : (a.2.1 : Int) = b.2.1 <;> by_cases h3 : a.2.2 = b.2.2 <;> simp [h1, h2, h3]
/-- rows that a crews' and orders' telling may be -/
structure RowsOk (cs os : List Pc) (rs : List Rw) : Prop where
  rows : ∀ r ∈ rs, r.1 < os.length ∧ r.2.1 < cs.length ∧ (os.getD r.1 pc0).1 ≤ (cs.getD r.2.1 pc0).1 ∧ 1 ≤ r.2.2
  rise : rs.Pairwise fun a b => a.1 < b.1 ∨ (a.1 = b.1 ∧ a.2.1 < b.2.1)
  crs : ∀ k, crS rs k ≤ (cs.getD k pc0).2
  ors : ∀ o, o < os.length → orS rs o ≤ (os.getD o pc0).2
theorem sortR_perm (rs : List Rw) : (sortR rs).Perm rs := List.mergeSort_perm _ _
theorem sortR_ok {cs os : List Pc} {rs : List Rw} {l : Int} (h : ShT cs os rs l) : RowsOk cs os (sortR rs) := by
  have p := sortR_perm rs
  refine ⟨fun r hr => h.rows r (p.mem_iff.mp hr), ?_, fun k => ?_, fun o ho => ?_⟩
  · have s : (sortR rs).Pairwise fun a b => PySem.W.dataLe false rwD a b = true := PySem.W.sort_pairwise (PySem.W.sortLe_total _ _ _) rs
    have t : (sortR rs).Pairwise fun a b => (a.1, a.2.1) ≠ (b.1, b.2.1) := (p.pairwise_iff (fun {a b} h => Ne.symm h)).mpr h.two
    refine (s.and t).imp fun {a b} z => ?_
    obtain ⟨z1, z2⟩ := z
    have z1 : (!PySem.W.dataLt (rwD b) (rwD a)) = true := z1
    rw [dl3, Bool.not_eq_true', decide_eq_false_iff_not] at z1
    by_cases e : a.1 = b.1
    · have : a.2.1 ≠ b.2.1 := fun q => z2 (by rw [e, q])
      exact .inr ⟨e, by omega⟩
    · exact .inl (by omega)
  · have := h.crs k
    unfold crS at this ⊢
    rw [perm_sum ((p.filter _).map fun r : Rw => r.2.2)]
    exact this
  · have := h.ors o ho
    unfold orS at this ⊢
    rw [perm_sum ((p.filter _).map fun r : Rw => r.2.2)]
    exact this
def clF (cs : List Pc) (rs : List Rw) (i : Nat) : List Int := (List.range cs.length).map fun k => (cs.getD k pc0).2 - crS (rs.take i) k
def olF (os : List Pc) (rs : List Rw) (i : Nat) : List Int := (List.range os.length).map fun k => (os.getD k pc0).2 - orS (rs.take i) k
theorem range_set {n k : Nat} {f g : Nat → Int} (hk : ∀ j, j ≠ k → g j = f j) : ((List.range n).map f).set k (g k) = (List.range n).map g := by
  refine List.ext_getElem? fun j => ?_
  rw [List.getElem?_set, List.getElem?_map, List.getElem?_map]
  by_cases h : k = j
  · subst h
    rw [if_pos rfl, List.length_map, List.length_range]
    by_cases hn : k < n
    · rw [if_pos hn, List.getElem?_range hn]; rfl
    · rw [if_neg hn, List.getElem?_eq_none (by rw [List.length_range]; omega)]; rfl
  · rw [if_neg h]
    by_cases hn : j < n
    · rw [List.getElem?_range hn]
      show some _ = some _
      rw [hk j (fun z => h z.symm)]
    · rw [List.getElem?_eq_none (by rw [List.length_range]; omega)]; rfl
theorem cl_zero (cs : List Pc) (rs : List Rw) : cs.map (·.2) = clF cs rs 0 := by
  refine List.ext_getElem? fun j => ?_
  unfold clF
  rw [List.getElem?_map, List.getElem?_map]
  by_cases h : j < cs.length
  · rw [List.getElem?_range h, List.getElem?_eq_getElem h]
    show some _ = some ((cs.getD j pc0).2 - 0)
    rw [List.getD_eq_getElem?_getD, List.getElem?_eq_getElem h, Int.sub_zero]; rfl
  · rw [List.getElem?_eq_none (by omega), List.getElem?_eq_none (by rw [List.length_range]; omega)]; rfl
theorem ol_zero (os : List Pc) (rs : List Rw) : os.map (·.2) = olF os rs 0 := by
  refine List.ext_getElem? fun j => ?_
  unfold olF
  rw [List.getElem?_map, List.getElem?_map]
  by_cases h : j < os.length
  · rw [List.getElem?_range h, List.getElem?_eq_getElem h]
    show some _ = some ((os.getD j pc0).2 - 0)
    rw [List.getD_eq_getElem?_getD, List.getElem?_eq_getElem h, Int.sub_zero]; rfl
  · rw [List.getElem?_eq_none (by omega), List.getElem?_eq_none (by rw [List.length_range]; omega)]; rfl
theorem crS_take {rs : List Rw} {i : Nat} {r : Rw} (g : rs[i]? = some r) (k : Nat) : crS (rs.take (i + 1)) k = crS (rs.take i) k + if r.2.1 = k then r.2.2 else 0 := by
  rw [List.take_add_one, g, ← crS_one]
  exact fs_app _ _
theorem orS_take {rs : List Rw} {i : Nat} {r : Rw} (g : rs[i]? = some r) (k : Nat) : orS (rs.take (i + 1)) k = orS (rs.take i) k + if r.1 = k then r.2.2 else 0 := by
  rw [List.take_add_one, g, ← orS_one]
  exact fs_app _ _
theorem cl_set {cs : List Pc} {rs : List Rw} {i : Nat} {r : Rw} (g : rs[i]? = some r) : (clF cs rs i).set r.2.1 ((cs.getD r.2.1 pc0).2 - crS (rs.take i) r.2.1 - r.2.2) = clF cs rs (i + 1) := by
  have e : (cs.getD r.2.1 pc0).2 - crS (rs.take i) r.2.1 - r.2.2 = (fun k => (cs.getD k pc0).2 - crS (rs.take (i + 1)) k) r.2.1 := by
    show _ = (cs.getD r.2.1 pc0).2 - crS (rs.take (i + 1)) r.2.1
    rw [crS_take g, if_pos rfl]; omega
  rw [e]
  exact range_set (f := fun k => (cs.getD k pc0).2 - crS (rs.take i) k) (g := fun k => (cs.getD k pc0).2 - crS (rs.take (i + 1)) k) fun j hj => by
    show (cs.getD j pc0).2 - crS (rs.take (i + 1)) j = (cs.getD j pc0).2 - crS (rs.take i) j
    rw [crS_take g, if_neg (fun z => hj z.symm)]; omega
theorem ol_set {os : List Pc} {rs : List Rw} {i : Nat} {r : Rw} (g : rs[i]? = some r) : (olF os rs i).set r.1 ((os.getD r.1 pc0).2 - orS (rs.take i) r.1 - r.2.2) = olF os rs (i + 1) := by
  have e : (os.getD r.1 pc0).2 - orS (rs.take i) r.1 - r.2.2 = (fun k => (os.getD k pc0).2 - orS (rs.take (i + 1)) k) r.1 := by
    show _ = (os.getD r.1 pc0).2 - orS (rs.take (i + 1)) r.1
    rw [orS_take g, if_pos rfl]; omega
  rw [e]
  exact range_set (f := fun k => (os.getD k pc0).2 - orS (rs.take i) k) (g := fun k => (os.getD k pc0).2 - orS (rs.take (i + 1)) k) fun j hj => by
    show (os.getD j pc0).2 - orS (rs.take (i + 1)) j = (os.getD j pc0).2 - orS (rs.take i) j
    rw [orS_take g, if_neg (fun z => hj z.symm)]; omega
theorem cl_at {cs : List Pc} {rs : List Rw} {i k : Nat} (h : k < cs.length) : ((clF cs rs i).map V.int)[k]? = some (.int ((cs.getD k pc0).2 - crS (rs.take i) k)) := by
  unfold clF
  rw [List.getElem?_map, List.getElem?_map, List.getElem?_range h]; rfl
theorem ol_at {os : List Pc} {rs : List Rw} {i k : Nat} (h : k < os.length) : ((olF os rs i).map V.int)[k]? = some (.int ((os.getD k pc0).2 - orS (rs.take i) k)) := by
  unfold olF
  rw [List.getElem?_map, List.getElem?_map, List.getElem?_range h]; rfl
def lastR (rs : List Rw) : Nat → Int × Int
  | 0 => (-1, -1)
  | i + 1 => match rs[i]? with
    | some r => ((r.1 : Int), (r.2.1 : Int))
    | none => (-1, -1)
theorem last_lt {cs os : List Pc} {rs : List Rw} (h : RowsOk cs os rs) {i : Nat} {r : Rw} (g : rs[i]? = some r) : (lastR rs i).1 < (r.1 : Int) ∨ ((lastR rs i).1 = (r.1 : Int) ∧ (lastR rs i).2 < (r.2.1 : Int)) := by
  cases i with
  | zero => exact .inl (by show (-1 : Int) < _; omega)
  | succ i =>
    have hi := (List.getElem?_eq_some_iff.mp g).1
    have g2 : rs[i]? = some (rs[i]'(by omega)) := List.getElem?_eq_getElem (by omega)
    have q := List.pairwise_iff_getElem.mp h.rise i (i + 1) (by omega) hi (by omega)
    have e : rs[i + 1] = r := (List.getElem?_eq_some_iff.mp g).2
    rw [e] at q
    have el : lastR rs (i + 1) = (((rs[i]'(by omega)).1 : Int), ((rs[i]'(by omega)).2.1 : Int)) := by
      show (match rs[i]? with | some r => ((r.1 : Int), (r.2.1 : Int)) | none => (-1, -1)) = _
      rw [g2]
    rw [el]
    dsimp only
    omega
/-- one row of a telling, of any data -/
def okRw (cs os : List Pc) : PyData → Bool
  | .tuple [.int a, .int b, .int m] => decide (0 ≤ a) && (decide (a < os.length) && (decide (0 ≤ b) && (decide (b < cs.length) && (decide (1 ≤ m) && decide ((os.getD a.toNat pc0).1 ≤ (cs.getD b.toNat pc0).1)))))
  | _ => false
def decR : PyData → Rw
  | .tuple [.int a, .int b, .int m] => (a.toNat, b.toNat, m)
  | _ => (0, 0, 0)
def lt2 (a b : Rw) : Bool := decide (a.1 < b.1) || (decide (a.1 = b.1) && decide (a.2.1 < b.2.1))
def stepB (cs os : List Pc) (ds : List PyData) (i : Nat) : Bool := okRw cs os (ds.getD i .none) && (decide (i = 0) || lt2 (decR (ds.getD (i - 1) .none)) (decR (ds.getD i .none)))
def sumsB (cs os : List Pc) (rs : List Rw) : Bool := ((List.range cs.length).all fun k => decide (crS rs k ≤ (cs.getD k pc0).2)) && ((List.range os.length).all fun k => decide (orS rs k ≤ (os.getD k pc0).2))
def areD (cs os : List Pc) : PyData → Bool
  | .list ds => ((List.range ds.length).all (stepB cs os ds)) && sumsB cs os (ds.map decR)
  | _ => false
theorem are_false {cs os : List Pc} {ds : List PyData} {i : Nat} (hi : i < ds.length) (h : stepB cs os ds i = false) : areD cs os (.list ds) = false := by
  show (((List.range ds.length).all (stepB cs os ds)) && _) = false
  rw [Bool.and_eq_false_iff]
  refine .inl ?_
  rw [List.all_eq_false]
  exact ⟨i, List.mem_range.mpr hi, by rw [h]; decide⟩
theorem okRw_tup {cs os : List Pc} {d : PyData} (h : okRw cs os d = true) : ∃ a b m : Int, d = .tuple [.int a, .int b, .int m] ∧ 0 ≤ a ∧ a < os.length ∧ 0 ≤ b ∧ b < cs.length ∧ 1 ≤ m ∧ (os.getD a.toNat pc0).1 ≤ (cs.getD b.toNat pc0).1 := by
  unfold okRw at h
  split at h
  · simp only [Bool.and_eq_true, decide_eq_true_eq] at h
    exact ⟨_, _, _, rfl, h.1, h.2.1, h.2.2.1, h.2.2.2.1, h.2.2.2.2.1, h.2.2.2.2.2⟩
  · cases h
theorem step_lt {ds : List PyData} {i : Nat} {dr : PyData} (gr : ds[i]? = some dr) : (decide (i = 0) || lt2 (decR (ds.getD (i - 1) .none)) (decR (ds.getD i .none))) = decide ((lastR (ds.map decR) i).1 < ((decR dr).1 : Int) ∨ ((lastR (ds.map decR) i).1 = ((decR dr).1 : Int) ∧ (lastR (ds.map decR) i).2 < ((decR dr).2.1 : Int))) := by
  have eg : ds.getD i .none = dr := by rw [List.getD_eq_getElem?_getD, gr]; rfl
  rw [eg]
  cases i with
  | zero =>
    have h : (lastR (ds.map decR) 0).1 < ((decR dr).1 : Int) := by show (-1 : Int) < _; omega
    rw [show decide ((0 : Nat) = 0) = true from rfl, Bool.true_or]
    exact (decide_eq_true (.inl h)).symm
  | succ j =>
    have hj : j < ds.length := by have := (List.getElem?_eq_some_iff.mp gr).1; omega
    have g2 : ds[j]? = some ds[j] := List.getElem?_eq_getElem hj
    have e1 : ds.getD (j + 1 - 1) .none = ds[j] := by rw [Nat.add_sub_cancel, List.getD_eq_getElem?_getD, g2]; rfl
    have e2 : lastR (ds.map decR) (j + 1) = (((decR ds[j]).1 : Int), ((decR ds[j]).2.1 : Int)) := by
      show (match (ds.map decR)[j]? with | some r => ((r.1 : Int), (r.2.1 : Int)) | none => (-1, -1)) = _
      rw [List.getElem?_map, g2]; rfl
    rw [e1, e2]
    unfold lt2
    rw [Bool.eq_iff_iff]
    simp only [Bool.or_eq_true, Bool.and_eq_true, decide_eq_true_eq]
    omega
def whD (d : PyData) : Bool := match d with | .int _ => true | _ => false
theorem whD_int {d : PyData} (h : whD d = true) : ∃ i, d = .int i := by
  cases d with
  | int i => exact ⟨i, rfl⟩
  | _ => cases h

end
end Pot

namespace Pot
open PySem PySem.Spec PyProof.Rows L2
section
variable {P : Program} {w : World} {K : PySem.W.Frag} {mg : Str → Option Value} {base : Heap}
def spNumD (K : PySem.W.Frag) : Sp := fun vs H Q _ => ∃ (x : V) (d : PyData) (lo hi : Int), vs = [x, .int lo, .int hi] ∧ Dp K H x d ∧ Q (.bl (numD lo hi d)) H
/-! ### is_number: whether it's a number within bounds -/
abbrev s_is_number : Stmt := topS 1
def n_is_number : List Str := ["thing", "low", "high"]
theorem sc_is_number : FnScope n_is_number ["thing", "low", "high"] (defScope s_is_number) := ⟨rfl, rfl, rfl, by decide +kernel, rfl, by decide +kernel, by decide +kernel⟩
theorem ok_numD {f : Addr} {fd : FuncData} {k : Nat} (F : Fun K "is_number" "is_number" s_is_number f fd) (T : Txt mg) : FnOk P w K mg base CX0 (k + 1) f fd ["thing", "low", "high"] (spNumD K) := by
  refine F.ok sc_is_number (fun vs H Q E h => ?_) (fun cdv A outer s H vs Q E hr h => ?_)
  · obtain ⟨x, d, lo, hi, rfl, _⟩ := h
    rfl
  · obtain ⟨x, d, lo, hi, rfl, dp, q⟩ := h
    have nd := sc_is_number.nd
    refine ⟨_, (pss_one (ps_ret (pe_and (pe_callB (kc_isi (K := K)) (by rfl) T.isinstance (by decide +kernel) (pa_cons (pv 0) (pa_cons (pe_bltn (v := .ty "int") (by rfl) T.int (by decide +kernel) rfl) pa_nil))) (pe_and (pe_not (pe_callB (kc_isi (K := K)) (by rfl) T.isinstance (by decide +kernel) (pa_cons (pv 0) (pa_cons (pe_bltn (v := .ty "bool") (by rfl) T.bool (by decide +kernel) rfl) pa_nil)))) (pe_one (pe_chain op_le op_le (pv 1) (pv 0) (pv 2))))))), ?_⟩
    refine ⟨_, rfl, _, .ty _, _, _, isIntD _, rfl, .ty _, tyx_dp dp, kit_int dp, _, rfl, ?_⟩
    have dp2 := dp
    cases dp with
    | int i =>
      refine iteT ⟨_, rfl, _, .ty _, _, _, isBoolD _, rfl, .ty _, tyx_dp dp2, kit_bool dp2, _, rfl, _, rfl, iteT ?_⟩
      refine ⟨_, rfl, _, rfl, _, _, rfl, rfl, _, rfl, ite2 (fun h1 => ⟨_, rfl, _, _, rfl, rfl, ?_⟩) (fun h1 => ?_)⟩
      · have e : numD lo hi (.int i) = decide (i ≤ hi) := by show (decide (lo ≤ i) && _) = _; rw [h1]; rfl
        rw [e] at q; exact q
      · have e : numD lo hi (.int i) = false := by show (decide (lo ≤ i) && _) = _; rw [Bool.not_eq_true _ |>.mp h1]; rfl
        rw [e] at q; exact q
    | bl b =>
      refine iteT ⟨_, rfl, _, .ty _, _, _, isBoolD _, rfl, .ty _, tyx_dp dp2, kit_bool dp2, _, rfl, _, rfl, iteF q⟩
    | non => exact iteF q
    | str _ => exact iteF q
    | lst _ _ => exact iteF q
    | tup _ _ => exact iteF q

abbrev s_is_row : Stmt := topS 2
def n_is_row : List Str := ["thing", "size"]
theorem sc_is_row : FnScope n_is_row ["thing", "size"] (defScope s_is_row) := ⟨rfl, rfl, rfl, by decide +kernel, rfl, by decide +kernel, by decide +kernel⟩
def rowB (n : Int) : PyData → Bool
  | .tuple ds => decide (((ds.length : Nat) : Int) = n)
  | _ => false
def spRow (K : PySem.W.Frag) : Sp := fun vs H Q _ => ∃ (x : V) (d : PyData) (n : Int), vs = [x, .int n] ∧ Dp K H x d ∧ Q (.bl (rowB n d)) H
theorem ok_row {f : Addr} {fd : FuncData} {k : Nat} (F : Fun K "is_row" "is_row" s_is_row f fd) (T : Txt mg) : FnOk P w K mg base CX0 (k + 1) f fd ["thing", "size"] (spRow K) := by
  refine F.ok sc_is_row (fun vs H Q E h => ?_) (fun cdv A outer s H vs Q E hr h => ?_)
  · obtain ⟨x, d, n, rfl, _⟩ := h
    rfl
  · obtain ⟨x, d, n, rfl, dp, q⟩ := h
    have nd := sc_is_row.nd
    refine ⟨_, (pss_one (ps_ret (pe_and (pe_callB (kc_isi (K := K)) (by rfl) T.isinstance (by decide +kernel) (pa_cons (pv 0) (pa_cons (pe_bltn (v := .ty "tuple") (by rfl) T.tuple (by decide +kernel) rfl) pa_nil))) (pe_one (pe_cmpR op_eq (pe_callB (kc_len (K := K)) (by rfl) T.len PySem.boot_len (pa_cons (pv 0) pa_nil)) (pv 1) (nomark _)))))), ?_⟩
    refine ⟨_, rfl, _, .ty _, _, _, isTupD _, rfl, .ty _, tyx_dp dp, kit_tup dp, _, rfl, ?_⟩
    cases dp with
    | @tup a xs ds hS hx =>
      refine iteT ⟨_, rfl, _, _, rfl, .inr ⟨_, hS, rfl⟩, _, rfl, rfl, ?_⟩
      have lx := dpAll_len hx
      have e : rowB n (.tuple ds) = decide (V.int (xs.length : Nat) = V.int n) := by
        show decide _ = _
        rw [lx]
        exact decide_eq_decide.mpr ⟨fun h => by rw [h], V.int.inj⟩
      rw [e] at q; exact q
    | str z => exact iteF q
    | int _ => exact iteF q
    | bl b => exact iteF q
    | non => exact iteF q
    | lst _ _ => exact iteF q

abbrev Pp : Type := Nat × Nat
def ppD (p : Pp) : PyData := .tuple [.int (p.1 : Nat), .int (p.2 : Nat)]
def ltP (a b : Pp) : Bool := decide (a.1 < b.1) || (decide (a.1 = b.1) && decide (a.2 < b.2))
def rbP (ps : List Pp) : List Bool := (List.range (ps.length - 1)).map fun i => ltP (ps.getD i (0, 0)) (ps.getD (i + 1) (0, 0))
abbrev s_is_rising : Stmt := topS 3
def n_is_rising : List Str := ["keys", "one", "other"]
theorem sc_is_rising : FnScope n_is_rising ["keys"] (defScope s_is_rising) := ⟨rfl, rfl, rfl, by decide +kernel, rfl, by decide +kernel, by decide +kernel⟩
def spRisP (K : PySem.W.Frag) : Sp := fun vs H Q _ => ∃ (a : Addr) (xs : List V) (ps : List Pp), vs = [.ref a] ∧ SqL K H a xs ∧ DpAll K H xs (ps.map ppD) ∧ ps.length ≤ 4000 ∧ ∀ H', Same H H' → Q (.bl ((rbP ps).all id)) H'
theorem ok_risp {f : Addr} {fd : FuncData} {k : Nat} (F : Fun K "is_rising" "is_rising" s_is_rising f fd) (T : Txt mg) : FnOk P w K mg base CX0 (k + 1) f fd ["keys"] (spRisP K) := by
  refine F.ok sc_is_rising (fun vs H Q E h => ?_) (fun cdv A outer s H vs Q E hr h => ?_)
  · obtain ⟨a, xs, ps, rfl, _⟩ := h
    rfl
  · obtain ⟨a, xs, ps, rfl, hS, dx, h4, q⟩ := h
    have nd := sc_is_rising.nd
    have hu70 : (A.deeper (envOfC (Str.ofString "is_rising") (defScope s_is_rising) s.heap.objs.size f cdv)).units + 70 < cLine := by have := hr.un; omega
    refine ⟨_, (pss_one (ps_ret (pe_callB (kc_all (K := K)) (by rfl) T.all (by decide +kernel) (pa_cons (pe_lc (own := [("one", 1), ("other", 2)]) rfl nd (ki_zip (K := K) (by rfl) T.zip (pa_cons (pv 0) (pa_cons (pe_slice (kl_list (K := K)) (pv 0) (po_some pe_int) po_none) pa_nil))) (blkOk_by (N := n_is_rising) (sc := defScope s_is_rising) (by decide +kernel)) (fun _ _ _ _ _ => (kg_tup (K := K) (n := 2) (pgs_cons (pg_name (i := 1) nd rfl (.inl rfl)) (pgs_cons (pg_name (i := 2) nd rfl (.inl rfl)) pgs_nil)))) (fun _ _ _ _ _ => pts_nil) (fun _ _ _ _ _ => (pe_cmpR (ko_ltD (K := K) hu70) (pv 1) (pv 2) (nomark _)))) pa_nil)))), ?_⟩
    have lx : xs.length = ps.length := dpAll_map_len dx
    refine ⟨_, rfl, _, rfl, 1, rfl, a, _, rfl, hS, fun e ne => ?_⟩
    have ce : cutV xs (some 1) none = xs.drop 1 := by rw [show (1 : Int) = ((1 : Nat) : Int) from rfl, cut_tail]
    have he : upd H e (.lst (cutV xs (some 1) none)) e = some (.lst (xs.drop 1)) := by rw [upd_same, ce]
    have s1 := same_upd (o := .lst (cutV xs (some 1) none)) ne
    generalize upd H e (.lst (cutV xs (some 1) none)) = H1 at he s1 ⊢
    have hS := s1.seq hS
    have dx := dpAll_same s1 dx
    have lrb : (rbP ps).length = ps.length - 1 := by unfold rbP; rw [List.length_map, List.length_range]
    refine ⟨a, e, _, _, rfl, .inl ⟨hS, SqL.of he, fun D nD => ?_⟩⟩
    refine lc_it (walk_zip (xs := xs) (ys := xs.drop 1) (n := (rbP ps).length) (by rw [lrb, List.length_drop]; omega)) (PvL H1 D fun i => ((rbP ps).take i).map V.bl)
      (pv_start nD rfl) (fun i H2 _ h => ⟨h.1.seq hS, SqL.of (h.1 _ _ he)⟩) ?_ ?_
    · rintro i v H2 H3 hi p ⟨u, x1, y1, rfl, hu, rfl, gx, gy⟩
      replace gx : xs[i]? = some x1 := gx
      replace gy : (xs.drop 1)[i]? = some y1 := gy
      rw [List.getElem?_drop, Nat.add_comm] at gy
      obtain ⟨p1, gp1, d1⟩ := dpAll_map_at dx gx
      obtain ⟨p2, gp2, d2⟩ := dpAll_map_at dx gy
      have s2 := p.1.trans (same_upd (o := .tup [x1, y1]) hu)
      refine ⟨u, _, rfl, .inl (.inl upd_same), rfl, _, _, rfl, _, _, rfl, rfl, rfl, tYes_at ?_⟩
      rw [if_pos rfl]
      refine ⟨_, rfl, _, rfl, ppD p1, ppD p2, dp_same s2 d1, dp_same s2 d2, by simp [ppD, PySem.W.alike, PySem.W.alikeAll], (fun z => by cases z), by simp [ppD, PyData.depth, PyData.depthAll], ?_⟩
      have el : PySem.W.dataLt (ppD p1) (ppD p2) = ltP p1 p2 := by
        unfold ppD
        rw [PySem.W.dataLt_ii]
        unfold ltP
        rw [Bool.eq_iff_iff]
        simp only [Bool.or_eq_true, Bool.and_eq_true, decide_eq_true_eq]
        omega
      rw [el]
      have g : (rbP ps)[i]? = some (ltP p1 p2) := by
        unfold rbP
        rw [List.getElem?_map, List.getElem?_range (by omega)]
        show some (ltP (ps.getD i (0, 0)) (ps.getD (i + 1) (0, 0))) = _
        rw [List.getD_eq_getElem?_getD, gp1, List.getD_eq_getElem?_getD, gp2]; rfl
      exact pv_put nD p (same_upd hu) (take_map V.bl g) (take_len_le (by omega))
    · intro H2 p
      obtain ⟨sm, hD⟩ := pv_end p (take_all (Nat.le_refl _))
      refine ⟨D, _, rfl, SqL.of hD, ?_⟩
      exact q _ (s1.trans sm)

def shD (cs os : List Pc) (d : PyData) : Bool := okRw cs os d && decide ((decR d).2.2 ≤ (os.getD (decR d).1 pc0).2)
abbrev s_is_share : Stmt := topS 11
def n_is_share : List Str := ["crews", "orders", "thing"]
theorem sc_is_share : FnScope n_is_share ["crews", "orders", "thing"] (defScope s_is_share) := ⟨rfl, rfl, rfl, by decide +kernel, rfl, by decide +kernel, by decide +kernel⟩
def spShare (K : PySem.W.Frag) : Sp := fun vs H Q _ => ∃ (c o : Addr) (xs ys : List V) (cs os : List Pc) (x : V) (d : PyData), vs = [.ref c, .ref o, x] ∧ SqL K H c xs ∧ SqL K H o ys ∧ DpAll K H xs (cs.map pcD) ∧ DpAll K H ys (os.map pcD) ∧ Dp K H x d ∧ ∀ H', Same H H' → Q (.bl (shD cs os d)) H'
theorem ok_share {f : Addr} {fd : FuncData} {k : Nat} (F : Fun K "is_share" "is_share" s_is_share f fd) (T : Txt mg) (c_is_number : Cl P w K mg base (k + 1) "is_number" (spNumD K)) (c_is_row : Cl P w K mg base (k + 1) "is_row" (spRow K)) : FnOk P w K mg base CX0 (k + 2) f fd ["crews", "orders", "thing"] (spShare K) := by
  refine F.ok sc_is_share (fun vs H Q E h => ?_) (fun cdv A outer s H vs Q E hr h => ?_)
  · obtain ⟨c, o, xs, ys, cs, os, x, d, rfl, _⟩ := h
    rfl
  · obtain ⟨c, o, xs, ys, cs, os, x, d, rfl, hC, hO, dc, dO, dp, q⟩ := h
    have nd := sc_is_share.nd
    refine ⟨_, (pss_one (ps_ret (pe_and (pe_cl c_is_row hr (by omega) (by rfl) (pa_cons (pv 2) (pa_cons pe_int pa_nil))) (pe_and (pe_cl c_is_number hr (by omega) (by rfl) (pa_cons (pe_ix (kx_tup (K := K)) (pv 2) pe_int (fun _ _ => rfl)) (pa_cons pe_int (pa_cons (pe_op op_sub (pe_callB (kc_len (K := K)) (by rfl) T.len PySem.boot_len (pa_cons (pv 1) pa_nil)) pe_int) pa_nil)))) (pe_and (pe_cl c_is_number hr (by omega) (by rfl) (pa_cons (pe_ix (kx_tup (K := K)) (pv 2) pe_int (fun _ _ => rfl)) (pa_cons pe_int (pa_cons (pe_op op_sub (pe_callB (kc_len (K := K)) (by rfl) T.len PySem.boot_len (pa_cons (pv 0) pa_nil)) pe_int) pa_nil)))) (pe_and (pe_cl c_is_number hr (by omega) (by rfl) (pa_cons (pe_ix (kx_tup (K := K)) (pv 2) pe_int (fun _ _ => rfl)) (pa_cons pe_int (pa_cons (pe_ix (kx_tup (K := K)) (pe_ix (kx_list (K := K)) (pv 1) (pe_ix (kx_tup (K := K)) (pv 2) pe_int (fun _ _ => rfl)) (fun _ _ => rfl)) pe_int (fun _ _ => rfl)) pa_nil)))) (pe_one (pe_cmpR op_ge (pe_ix (kx_tup (K := K)) (pe_ix (kx_list (K := K)) (pv 0) (pe_ix (kx_tup (K := K)) (pv 2) pe_int (fun _ _ => rfl)) (fun _ _ => rfl)) pe_int (fun _ _ => rfl)) (pe_ix (kx_tup (K := K)) (pe_ix (kx_list (K := K)) (pv 1) (pe_ix (kx_tup (K := K)) (pv 2) pe_int (fun _ _ => rfl)) (fun _ _ => rfl)) pe_int (fun _ _ => rfl)) (nomark _))))))))), ?_⟩
    have lx : xs.length = cs.length := dpAll_map_len dc
    have ly : ys.length = os.length := dpAll_map_len dO
    have out : okRw cs os d = false → Q (.bl false) H := fun e => by
      have := q H (Same.refl _)
      unfold shD at this
      rw [e] at this
      exact this
    refine ⟨_, rfl, x, d, 3, rfl, dp, _, rfl, ?_⟩
    cases h3 : rowB 3 d with
    | false =>
      refine iteF (out ?_)
      unfold okRw
      split
      · cases h3
      · rfl
    | true =>
    obtain ⟨d1, d2, d3, rfl⟩ : ∃ d1 d2 d3, d = .tuple [d1, d2, d3] := by
      cases d with
      | tuple ds =>
        have l : ((ds.length : Nat) : Int) = 3 := of_decide_eq_true h3
        match ds, l with
        | [d1, d2, d3], _ => exact ⟨_, _, _, rfl⟩
        | [], l => simp at l
        | [_], l => simp at l
        | [_, _], l => simp at l
        | _ :: _ :: _ :: _ :: _, l => simp at l; omega
      | _ => cases h3
    obtain ⟨a, v1, v2, v3, rfl, hT, e1, e2, e3⟩ : ∃ a v1 v2 v3, x = .ref a ∧ SqT K H a [v1, v2, v3] ∧ Dp K H v1 d1 ∧ Dp K H v2 d2 ∧ Dp K H v3 d3 := by
      cases dp with
      | tup h t => cases t with
        | cons h1 t => cases t with
          | cons h2 t => cases t with
            | cons h3 t => cases t; exact ⟨_, _, _, _, rfl, h, h1, h2, h3⟩
    refine iteT ⟨_, rfl, a, _, 0, _, rfl, rfl, hT, rfl, _, rfl, _, _, rfl, .inl ⟨_, hO, rfl⟩, _, _, rfl, rfl, v1, d1, 0, _, rfl, e1, _, rfl, ?_⟩
    cases n1 : numD 0 (((ys.length : Nat) : Int) - 1) d1 with
    | false =>
      refine iteF (out ?_)
      unfold okRw
      split
      · rename_i e
        cases e
        rw [Bool.and_eq_false_iff, Bool.and_eq_false_iff]
        have n1 : (decide ((0 : Int) ≤ _) && decide (_ ≤ ((ys.length : Nat) : Int) - 1)) = false := n1
        rw [Bool.and_eq_false_iff, decide_eq_false_iff_not, decide_eq_false_iff_not] at n1
        rcases n1 with n1 | n1
        · exact .inl (decide_eq_false n1)
        · exact .inr (.inl (decide_eq_false (by omega)))
      · rfl
    | true =>
    obtain ⟨a0, rfl, b1, b2⟩ : ∃ a0, d1 = .int a0 ∧ 0 ≤ a0 ∧ a0 ≤ ((ys.length : Nat) : Int) - 1 := by
      obtain ⟨h1, h2, h3⟩ := numD_int n1
      exact ⟨_, h1, h2, h3⟩
    cases e1
    refine iteT ⟨_, rfl, a, _, 1, _, rfl, rfl, hT, rfl, _, rfl, _, _, rfl, .inl ⟨_, hC, rfl⟩, _, _, rfl, rfl, v2, d2, 0, _, rfl, e2, _, rfl, ?_⟩
    cases n2 : numD 0 (((xs.length : Nat) : Int) - 1) d2 with
    | false =>
      refine iteF (out ?_)
      unfold okRw
      split
      · rename_i e
        cases e
        have n2 : (decide ((0 : Int) ≤ _) && decide (_ ≤ ((xs.length : Nat) : Int) - 1)) = false := n2
        rw [Bool.and_eq_false_iff, decide_eq_false_iff_not, decide_eq_false_iff_not] at n2
        rw [Bool.and_eq_false_iff, Bool.and_eq_false_iff, Bool.and_eq_false_iff, Bool.and_eq_false_iff]
        rcases n2 with n2 | n2
        · exact .inr (.inr (.inl (decide_eq_false n2)))
        · exact .inr (.inr (.inr (.inl (decide_eq_false (by omega)))))
      · rfl
    | true =>
    obtain ⟨b0, rfl, b3, b4⟩ : ∃ b0, d2 = .int b0 ∧ 0 ≤ b0 ∧ b0 ≤ ((xs.length : Nat) : Int) - 1 := by
      obtain ⟨h1, h2, h3⟩ := numD_int n2
      exact ⟨_, h1, h2, h3⟩
    cases e2
    obtain ⟨an, rfl⟩ : ∃ an : Nat, a0 = (an : Int) := ⟨a0.toNat, by omega⟩
    obtain ⟨bn, rfl⟩ : ∃ bn : Nat, b0 = (bn : Int) := ⟨b0.toNat, by omega⟩
    have hiy : an < ys.length := by omega
    have hix : bn < xs.length := by omega
    obtain ⟨bo, ebo, hbo, _⟩ := pcs_at dO (List.getElem?_eq_getElem hiy)
    obtain ⟨bc, ebc, hbc, _⟩ := pcs_at dc (List.getElem?_eq_getElem hix)
    have gy : ys[an]? = some (.ref bo) := by rw [List.getElem?_eq_getElem hiy, ebo]
    have gx : xs[bn]? = some (.ref bc) := by rw [List.getElem?_eq_getElem hix, ebc]
    refine iteT ⟨_, rfl, a, _, 2, _, rfl, rfl, hT, rfl, _, rfl, _, rfl, a, _, 0, _, rfl, rfl, hT, rfl, o, ys, an, _, rfl, rfl, hO, atI_nat gy, bo, _, 1, _, rfl, rfl, hbo, rfl, v3, d3, 1, _, rfl, e3, _, rfl, ?_⟩
    cases n3 : numD 1 (os.getD an pc0).2 d3 with
    | false =>
      refine iteF ?_
      have := q H (Same.refl _)
      have e : shD cs os (.tuple [.int (an : Int), .int (bn : Int), d3]) = false := by
        unfold shD
        cases ok : okRw cs os (.tuple [.int (an : Int), .int (bn : Int), d3]) with
        | false => rfl
        | true =>
          obtain ⟨a', b', m, e, k1, k2, k3, k4, k5, k6⟩ := okRw_tup ok
          cases e
          have n3 : (decide ((1 : Int) ≤ m) && decide (m ≤ (os.getD an pc0).2)) = false := n3
          rw [decide_eq_true k5, Bool.true_and] at n3
          exact n3
      rw [e] at this
      exact this
    | true =>
    obtain ⟨m, rfl, b5, b6⟩ : ∃ m, d3 = .int m ∧ 1 ≤ m ∧ m ≤ (os.getD an pc0).2 := by
      obtain ⟨h1, h2, h3⟩ := numD_int n3
      exact ⟨_, h1, h2, h3⟩
    cases e3
    refine iteT ⟨_, rfl, _, rfl, a, _, 1, _, rfl, rfl, hT, rfl, c, xs, bn, _, rfl, rfl, hC, atI_nat gx, bc, _, 0, _, rfl, rfl, hbc, rfl, _, rfl, _, rfl, a, _, 0, _, rfl, rfl, hT, rfl, o, ys, an, _, rfl, rfl, hO, atI_nat gy, bo, _, 0, _, rfl, rfl, hbo, rfl, _, _, rfl, rfl, ?_⟩
    have e : shD cs os (.tuple [.int (an : Int), .int (bn : Int), .int m]) = decide ((os.getD an pc0).1 ≤ (cs.getD bn pc0).1) := by
      show ((decide ((0 : Int) ≤ (an : Int)) && (decide ((an : Int) < os.length) && (decide ((0 : Int) ≤ (bn : Int)) && (decide ((bn : Int) < cs.length) && (decide (1 ≤ m) && decide ((os.getD (an : Int).toNat pc0).1 ≤ (cs.getD (bn : Int).toNat pc0).1)))))) && decide (m ≤ (os.getD (an : Int).toNat pc0).2)) = _
      rw [Int.toNat_natCast, Int.toNat_natCast, decide_eq_true b1, decide_eq_true (by omega : (an : Int) < os.length), decide_eq_true b3, decide_eq_true (by omega : (bn : Int) < cs.length), decide_eq_true b5, decide_eq_true b6]
      simp
    rw [e] at q
    exact q H (Same.refl _)

def pkR (part : Nat) (r : Rw) : Nat := if part = 0 then r.1 else r.2.1
theorem pk_sum {part : Nat} (rs : List Rw) (k : Nat) : ((rs.filter fun r => decide (pkR part r = k)).map fun r => r.2.2).sum = if part = 0 then orS rs k else crS rs k := by
  unfold pkR
  by_cases h : part = 0
  · simp only [if_pos h]; rfl
  · simp only [if_neg h]; rfl
def prS (part : Nat) (rs : List Rw) (k : Nat) : Int := if part = 0 then orS rs k else crS rs k
abbrev s_keeps_to : Stmt := topS 12
def n_keeps_to : List Str := ["rows", "part", "pairs", "number", "rank", "many", "row"]
theorem sc_keeps_to : FnScope n_keeps_to ["rows", "part", "pairs"] (defScope s_keeps_to) := ⟨rfl, rfl, rfl, by decide +kernel, rfl, by decide +kernel, by decide +kernel⟩
def spKeeps (K : PySem.W.Frag) : Sp := fun vs H Q _ => ∃ (R c : Addr) (part : Nat) (zs xs : List V) (rs : List Rw) (ps : List Pc), vs = [.ref R, .int (part : Nat), .ref c] ∧ part ≤ 1 ∧ SqL K H R zs ∧ DpAll K H zs (rs.map rwD) ∧ rs.length ≤ 4000 ∧ SqL K H c xs ∧ DpAll K H xs (ps.map pcD) ∧ ps.length ≤ 100 ∧ ∀ H', Same H H' → Q (.bl ((List.range ps.length).all fun k => decide (prS part rs k ≤ (ps.getD k pc0).2))) H'
theorem ok_keeps {f : Addr} {fd : FuncData} {k : Nat} (F : Fun K "keeps_to" "keeps_to" s_keeps_to f fd) (T : Txt mg) : FnOk P w K mg base CX0 (k + 1) f fd ["rows", "part", "pairs"] (spKeeps K) := by
  refine F.ok sc_keeps_to (fun vs H Q E h => ?_) (fun cdv A outer s H vs Q E hr h => ?_)
  · obtain ⟨R, c, part, zs, xs, rs, ps, rfl, _⟩ := h
    rfl
  · obtain ⟨R, c, part, zs, xs, rs, ps, rfl, hp, hR, dz, lr, hC, dc, lc, q⟩ := h
    have nd := sc_keeps_to.nd
    refine ⟨_, (pss_one (ps_ret (pe_callB (kc_all (K := K)) (by rfl) T.all (by decide +kernel) (pa_cons (pe_lc (own := [("number", 3), ("rank", 4), ("many", 5)]) rfl nd (ki_enum (K := K) (by rfl) T.enumerate (pa_cons (pv 2) pa_nil)) (blkOk_by (N := n_keeps_to) (sc := defScope s_keeps_to) (by decide +kernel)) (fun _ _ _ _ _ => (kg_tup (K := K) (n := 2) (pgs_cons (pg_name (i := 3) nd rfl (.inr rfl)) (pgs_cons (kg_tup (K := K) (n := 2) (pgs_cons (pg_name (i := 4) nd rfl (.inl rfl)) (pgs_cons (pg_name (i := 5) nd rfl (.inl rfl)) pgs_nil))) pgs_nil)))) (fun _ _ _ _ _ => pts_nil) (fun _ _ _ _ _ => (pe_cmpR op_le (pe_callB (kc_sum (K := K)) (by rfl) T.sum (by decide +kernel) (pa_cons (pe_lc (own := [("row", 6)]) rfl nd (ki_list (K := K) (pv 0)) (blkOk_by (N := n_keeps_to) (sc := relS ({ kind := PySem.ScopeKind.function, names := [ (PySem.Str.ofString ".0", PySem.NameKind.local), (PySem.Str.ofString "number", PySem.NameKind.cell), (PySem.Str.ofString "rank", PySem.NameKind.local), (PySem.Str.ofString "many", PySem.NameKind.local), (PySem.Str.ofString "sum", PySem.NameKind.globalImplicit), (PySem.Str.ofString "part", PySem.NameKind.free), (PySem.Str.ofString "rows", PySem.NameKind.free)], isGenerator := false, isCoroutine := false, more := [] : PySem.Scope }) (defScope s_keeps_to)) (by decide +kernel)) (fun _ _ _ _ _ => (pg_name (i := 6) nd rfl (.inl rfl))) (fun _ _ _ _ _ => (pts_one (pt_cmpR op_eq (pe_ix (kx_tup (K := K)) (pv 6) (pv 1) (fun _ _ => rfl)) (pv 3) (nomark _)))) (fun _ _ _ _ _ => (pe_ix (kx_tup (K := K)) (pv 6) pe_int (fun _ _ => rfl)))) pa_nil)) (pv 5) (nomark _)))) pa_nil)))), ?_⟩
    have lx : xs.length = ps.length := dpAll_map_len dc
    have lz : zs.length = rs.length := dpAll_map_len dz
    refine ⟨_, rfl, c, _, rfl, hC, fun D nD => ?_⟩
    refine lc_it (walk_enum (xs := xs)) (PvL H D fun i => (((List.range ps.length).map fun k => decide (prS part rs k ≤ (ps.getD k pc0).2)).take i).map V.bl) (pv_start nD rfl) (fun i H2 _ h => h.1.seq hC) ?_ ?_
    · rintro i x H2 H3 hi pv ⟨u, x1, x2, rfl, nu, rfl, g1, g2⟩
      cases g1
      replace g2 : xs[i]? = some x2 := g2
      obtain ⟨b, rfl, hb, hi2, _⟩ := pcs_at (dpAll_same pv.1 dc) g2
      have su := same_upd (o := .tup [.int (i : Nat), .ref b]) nu
      have hb := same_tup su hb
      refine ⟨u, _, rfl, .inl (.inl upd_same), rfl, _, _, rfl, _, _, rfl, b, _, rfl, hb, rfl, _, _, rfl, _, _, rfl, rfl, rfl, rfl, tYes_at ?_⟩
      rw [if_pos rfl]
      have s3 := pv.1.trans su
      have ft : upd H2 u (.tup [.int (i : Nat), .ref b]) u = _ := upd_same
      have pv2 : PvL H D (fun j => (((List.range ps.length).map fun k => decide (prS part rs k ≤ (ps.getD k pc0).2)).take j).map V.bl) i (upd H2 u (.tup [.int (i : Nat), .ref b])) := ⟨pv.1.trans su, su _ _ pv.2⟩
      generalize upd H2 u (.tup [.int (i : Nat), .ref b]) = H3 at s3 pv2 hb ft ⊢
      clear pv
      refine ⟨_, rfl, R, rfl, ⟨_, s3.seq hR⟩, fun E nE => ?_⟩
      refine lc_it (walk_list (xs := zs)) (PvL H3 E fun j => (((rs.take j).filter fun r => decide (pkR part r = i)).map fun r => r.2.2).map V.int) (pv_start nE rfl) (fun j H4 _ h => (s3.trans h.1).seq hR) ?_ ?_
      · rintro j y H4 H5 hj p ⟨rfl, gy⟩
        obtain ⟨ar, r, rfl, har, gr⟩ := rw_at (dpAll_same (s3.trans p.1) dz) gy
        have e : (((rs.take (j + 1)).filter fun r => decide (pkR part r = i)).map fun r => r.2.2).map V.int = if decide (pkR part r = i) = true then (((rs.take j).filter fun r => decide (pkR part r = i)).map fun r => r.2.2).map V.int ++ [V.int r.2.2] else (((rs.take j).filter fun r => decide (pkR part r = i)).map fun r => r.2.2).map V.int := by
          rw [List.take_add_one, gr, List.filter_append, List.map_append, List.map_append]
          by_cases h : decide (pkR part r = i) = true
          · rw [if_pos h]; simp [h]
          · rw [if_neg h]; simp [h]
        have gp : atI [V.int (r.1 : Int), .int (r.2.1 : Int), .int r.2.2] ((part : Nat) : Int) = some (.int ((pkR part r : Nat) : Int)) := by
          have h : part = 0 ∨ part = 1 := by omega
          rcases h with rfl | rfl <;> rfl
        refine ⟨rfl, _, rfl, _, rfl, ar, _, _, _, rfl, rfl, har, gp, _, rfl, rfl, _, rfl, ?_⟩
        by_cases h : pkR part r = i
        · rw [decide_eq_true (by rw [h])]
          rw [decide_eq_true h, if_pos rfl] at e
          refine iteT ⟨_, rfl, ar, _, 2, _, rfl, rfl, har, rfl, pv_put nE p (Same.refl _) e ?_⟩
          rw [List.length_map, List.length_map, sizeLine_eq]
          have h1 := List.length_filter_le (fun r => decide (pkR part r = i)) (rs.take j)
          have h2 := List.length_take_le' j rs
          omega
        · rw [decide_eq_false (fun z => h (by have := V.int.inj z; omega))]
          rw [decide_eq_false h, if_neg Bool.false_ne_true] at e
          exact iteF (pv_skip p (Same.refl _) e)
      · intro H4 p
        obtain ⟨sm, hE⟩ := pv_end p (show _ = ((rs.filter fun r => decide (pkR part r = i)).map fun r => r.2.2).map V.int by show (((rs.take _).filter _).map _).map _ = _; rw [lz, List.take_length])
        refine ⟨E, _, rfl, SqL.of hE, _, rfl, _, _, rfl, rfl, ?_⟩
        rw [pk_sum]
        have g : ((List.range ps.length).map fun k => decide (prS part rs k ≤ (ps.getD k pc0).2))[i]? = some (decide (prS part rs i ≤ (ps.getD i pc0).2)) := by
          rw [List.getElem?_map, List.getElem?_range hi2]; rfl
        exact pv_put nD pv2 sm (take_map V.bl g) (take_len_le (by rw [List.length_map, List.length_range]; omega))
    · intro H2 pv
      obtain ⟨sm, hD⟩ := pv_end pv (take_all (by rw [List.length_map, List.length_range]; omega))
      refine ⟨D, _, rfl, SqL.of hD, ?_⟩
      have e : ((List.range ps.length).map fun k => decide (prS part rs k ≤ (ps.getD k pc0).2)).all id = (List.range ps.length).all fun k => decide (prS part rs k ≤ (ps.getD k pc0).2) := by rw [List.all_map]; rfl
      rw [e]
      exact q _ sm

theorem okRw_rw {cs os : List Pc} {d : PyData} (h : okRw cs os d = true) : d = rwD (decR d) ∧ 1 ≤ (decR d).2.2 := by
  obtain ⟨a, b, m, rfl, h1, h2, h3, h4, h5, h6⟩ := okRw_tup h
  refine ⟨?_, h5⟩
  show PyData.tuple [.int a, .int b, .int m] = .tuple [.int ((a.toNat : Nat) : Int), .int ((b.toNat : Nat) : Int), .int m]
  rw [show ((a.toNat : Nat) : Int) = a by omega, show ((b.toNat : Nat) : Int) = b by omega]
def ppR (r : Rw) : Pp := (r.1, r.2.1)
theorem are_eq {cs os : List Pc} {ds : List PyData} (h : ds.all (okRw cs os) = true) : areD cs os (.list ds) = ((rbP ((ds.map decR).map ppR)).all id && sumsB cs os (ds.map decR)) := by
  show (((List.range ds.length).all (stepB cs os ds)) && sumsB cs os (ds.map decR)) = _
  congr 1
  rw [Bool.eq_iff_iff, List.all_eq_true]
  unfold rbP
  rw [List.all_map, List.all_eq_true]
  have ok : ∀ i, i < ds.length → okRw cs os (ds.getD i .none) = true := fun i hi => by
    have := List.all_eq_true.mp h ds[i] (List.getElem_mem hi)
    rw [List.getD_eq_getElem?_getD, List.getElem?_eq_getElem hi]
    exact this
  have gp : ∀ i, i < ds.length → ((ds.map decR).map ppR).getD i (0, 0) = ppR (decR (ds.getD i .none)) := fun i hi => by
    rw [List.getD_eq_getElem?_getD, List.getElem?_map, List.getElem?_map, List.getElem?_eq_getElem hi, List.getD_eq_getElem?_getD, List.getElem?_eq_getElem hi]; rfl
  have ln : ((ds.map decR).map ppR).length = ds.length := by rw [List.length_map, List.length_map]
  constructor
  · intro H i hi
    have hi := List.mem_range.mp hi
    rw [ln] at hi
    have := H (i + 1) (List.mem_range.mpr (by omega))
    unfold stepB at this
    rw [ok _ (by omega), Bool.true_and, Nat.add_sub_cancel] at this
    show ltP _ _ = true
    rw [gp _ (by omega), gp _ (by omega)]
    have e : decide (i + 1 = 0) = false := decide_eq_false (by omega)
    rw [e, Bool.false_or] at this
    exact this
  · intro H i hi
    have hi := List.mem_range.mp hi
    unfold stepB
    rw [ok _ hi, Bool.true_and]
    cases i with
    | zero => rfl
    | succ i =>
      have := H i (List.mem_range.mpr (by rw [ln]; omega))
      have this : ltP _ _ = true := this
      rw [gp _ (by omega), gp _ (by omega)] at this
      rw [Nat.add_sub_cancel]
      have e : decide (i + 1 = 0) = false := decide_eq_false (by omega)
      rw [e, Bool.false_or]
      exact this
theorem sum_ge {f : Rw → Int} : ∀ {rs : List Rw} {r : Rw}, (∀ x ∈ rs, 0 ≤ f x) → r ∈ rs → f r ≤ (rs.map f).sum
  | x :: rs, r, h, hr => by
    rw [List.map_cons, List.sum_cons]
    have nn : ∀ l : List Rw, (∀ x ∈ l, 0 ≤ f x) → 0 ≤ (l.map f).sum := fun l => by
      induction l with
      | nil => exact fun _ => Int.le_refl 0
      | cons y l ih =>
        intro hl
        rw [List.map_cons, List.sum_cons]
        have := ih fun z hz => hl z (List.mem_cons_of_mem _ hz)
        have := hl y List.mem_cons_self
        omega
    rcases List.mem_cons.mp hr with rfl | hr
    · have := nn rs fun z hz => h z (List.mem_cons_of_mem _ hz)
      omega
    · have := sum_ge (fun z hz => h z (List.mem_cons_of_mem _ hz)) hr
      have := h x List.mem_cons_self
      omega
theorem are_sh {cs os : List Pc} {ds : List PyData} (h : areD cs os (.list ds) = true) : ds.all (shD cs os) = true := by
  have h : (((List.range ds.length).all (stepB cs os ds)) && sumsB cs os (ds.map decR)) = true := h
  rw [Bool.and_eq_true, List.all_eq_true] at h
  obtain ⟨h1, h2⟩ := h
  have ok : ∀ d ∈ ds, okRw cs os d = true := fun d hd => by
    obtain ⟨i, hi, rfl⟩ := List.mem_iff_getElem.mp hd
    have := h1 i (List.mem_range.mpr hi)
    unfold stepB at this
    rw [Bool.and_eq_true, List.getD_eq_getElem?_getD, List.getElem?_eq_getElem hi] at this
    exact this.1
  rw [List.all_eq_true]
  intro d hd
  unfold shD
  rw [ok d hd, Bool.true_and, decide_eq_true_eq]
  unfold sumsB at h2
  rw [Bool.and_eq_true, List.all_eq_true, List.all_eq_true] at h2
  obtain ⟨a, b, m, e, k1, k2, k3, k4, k5, k6⟩ := okRw_tup (ok d hd)
  have ka : (decR d).1 < os.length := by rw [e]; show a.toNat < _; omega
  have h3 := of_decide_eq_true (h2.2 _ (List.mem_range.mpr ka))
  refine Int.le_trans ?_ h3
  unfold orS
  refine sum_ge (f := fun r : Rw => r.2.2) (fun x hx => ?_) (List.mem_filter.mpr ⟨List.mem_map.mpr ⟨d, hd, rfl⟩, decide_eq_true rfl⟩)
  obtain ⟨d2, hd2, rfl⟩ := List.mem_map.mp (List.mem_filter.mp hx).1
  have := (okRw_rw (ok d2 hd2)).2
  show 0 ≤ (decR d2).2.2
  omega
abbrev s_shows_share : Stmt := topS 10
def n_shows_share : List Str := ["crews", "orders", "thing", "row"]
theorem sc_shows_share : FnScope n_shows_share ["crews", "orders", "thing"] (defScope s_shows_share) := ⟨rfl, rfl, rfl, by decide +kernel, rfl, by decide +kernel, by decide +kernel⟩
def spShows (K : PySem.W.Frag) : Sp := fun vs H Q _ => ∃ (c o : Addr) (xs ys : List V) (cs os : List Pc) (x : V) (d : PyData), vs = [.ref c, .ref o, x] ∧ SqL K H c xs ∧ SqL K H o ys ∧ DpAll K H xs (cs.map pcD) ∧ DpAll K H ys (os.map pcD) ∧ cs.length ≤ 20 ∧ os.length ≤ 20 ∧ Dp K H x d ∧ widAll.wid d ≤ 4000 ∧ ∀ H', Same H H' → Q (.bl (areD cs os d)) H'
theorem ok_shows {f : Addr} {fd : FuncData} {k : Nat} (F : Fun K "shows_share" "shows_share" s_shows_share f fd) (T : Txt mg) (c_is_share : Cl P w K mg base (k + 2) "is_share" (spShare K)) (c_is_rising : Cl P w K mg base (k + 1) "is_rising" (spRisP K)) (c_keeps_to : Cl P w K mg base (k + 1) "keeps_to" (spKeeps K)) : FnOk P w K mg base CX0 (k + 3) f fd ["crews", "orders", "thing"] (spShows K) := by
  refine F.ok sc_shows_share (fun vs H Q E h => ?_) (fun cdv A outer s H vs Q E hr h => ?_)
  · obtain ⟨c, o, xs, ys, cs, os, x, d, rfl, _⟩ := h
    rfl
  · obtain ⟨c, o, xs, ys, cs, os, x, d, rfl, hC, hO, dc, dO, lc, lo, dp, hw, q⟩ := h
    have nd := sc_shows_share.nd
    refine ⟨_, (pss_one (ps_ret (pe_and (pe_callB (kc_isi (K := K)) (by rfl) T.isinstance (by decide +kernel) (pa_cons (pv 2) (pa_cons (pe_bltn (v := .ty "list") (by rfl) T.list (by decide +kernel) rfl) pa_nil))) (pe_and (pe_callB (kc_all (K := K)) (by rfl) T.all (by decide +kernel) (pa_cons (pe_lc (own := [("row", 3)]) rfl nd (ki_list (K := K) (pv 2)) (blkOk_by (N := n_shows_share) (sc := defScope s_shows_share) (by decide +kernel)) (fun _ _ _ _ _ => (pg_name (i := 3) nd rfl (.inl rfl))) (fun _ _ _ _ _ => pts_nil) (fun _ _ _ _ _ => (pe_cl c_is_share hr (by omega) (by rfl) (pa_cons (pv 0) (pa_cons (pv 1) (pa_cons (pv 3) pa_nil)))))) pa_nil)) (pe_and (pe_cl c_is_rising hr (by omega) (by rfl) (pa_cons (pe_lc (own := [("row", 3)]) rfl nd (ki_list (K := K) (pv 2)) (blkOk_by (N := n_shows_share) (sc := defScope s_shows_share) (by decide +kernel)) (fun _ _ _ _ _ => (pg_name (i := 3) nd rfl (.inl rfl))) (fun _ _ _ _ _ => pts_nil) (fun _ _ _ _ _ => (pe_tup (pa_cons (pe_ix (kx_tup (K := K)) (pv 3) pe_int (fun _ _ => rfl)) (pa_cons (pe_ix (kx_tup (K := K)) (pv 3) pe_int (fun _ _ => rfl)) pa_nil))))) pa_nil)) (pe_and (pe_cl c_keeps_to hr (by omega) (by rfl) (pa_cons (pv 2) (pa_cons pe_int (pa_cons (pv 1) pa_nil)))) (pe_one (pe_cl c_keeps_to hr (by omega) (by rfl) (pa_cons (pv 2) (pa_cons pe_int (pa_cons (pv 0) pa_nil))))))))))), ?_⟩
    have dp0 := dp
    refine ⟨_, rfl, _, .ty _, _, _, isListD _, rfl, .ty _, tyx_dp dp, kit_list dp, _, rfl, ?_⟩
    cases dp with
    | int i => exact iteF (q _ (Same.refl _))
    | bl b => exact iteF (q _ (Same.refl _))
    | non => exact iteF (q _ (Same.refl _))
    | str _ => exact iteF (q _ (Same.refl _))
    | tup _ _ => exact iteF (q _ (Same.refl _))
    | @lst R zs ds hR dz =>
    have l4 : ds.length ≤ 4000 := Nat.le_trans (Nat.le_max_left ..) hw
    have lz : zs.length = ds.length := dpAll_len dz
    refine iteT ⟨_, rfl, R, rfl, ⟨_, hR⟩, fun D nD => ?_⟩
    refine lc_it (walk_list (xs := zs)) (PvL H D fun i => ((ds.map (shD cs os)).take i).map V.bl) (pv_start nD rfl) (fun i H2 _ h => h.1.seq hR) ?_ ?_
    · rintro i x H2 H3 hi p ⟨rfl, gx⟩
      obtain ⟨d, gd, pd⟩ := dpAll_at dz gx
      refine ⟨rfl, tYes_at ?_⟩
      rw [if_pos rfl]
      refine ⟨_, rfl, _, rfl, _, rfl, c, o, xs, ys, cs, os, x, d, rfl, p.1.seq hC, p.1.seq hO, dpAll_same p.1 dc, dpAll_same p.1 dO, dp_same p.1 pd, fun H4 s4 => ?_⟩
      exact pv_put nD p s4 (take_map V.bl (by rw [List.getElem?_map, gd]; rfl)) (take_len_le (by rw [List.length_map]; omega))
    intro H2 p
    obtain ⟨sm, hD⟩ := pv_end p (take_all (by rw [List.length_map]; omega))
    refine ⟨D, _, rfl, SqL.of hD, _, rfl, ?_⟩
    rw [all_map]
    cases hsh : ds.all (shD cs os) with
    | false =>
      refine iteF ?_
      have := q _ sm
      have e : areD cs os (.list ds) = false := by
        cases ha : areD cs os (.list ds) with
        | false => rfl
        | true => rw [are_sh ha] at hsh; cases hsh
      rw [e] at this
      exact this
    | true =>
    refine iteT ?_
    have okA : ∀ d ∈ ds, okRw cs os d = true := fun d hd => (Bool.and_eq_true_iff.mp (List.all_eq_true.mp hsh d hd)).1
    have eA := are_eq (cs := cs) (os := os) (ds := ds) (List.all_eq_true.mpr okA)
    have eds : ds = (ds.map decR).map rwD := by
      rw [List.map_map]
      conv => lhs; rw [← List.map_id ds]
      exact List.map_congr_left fun d hd => (okRw_rw (okA d hd)).1
    rw [eA] at q
    have hC := sm.seq hC
    have hO := sm.seq hO
    have dc := dpAll_same sm dc
    have dO := dpAll_same sm dO
    have hR := sm.seq hR
    have dz := dpAll_same sm dz
    rw [eds] at dz
    have lrs : (ds.map decR).length = ds.length := List.length_map _
    generalize ds.map decR = rs at q dz lrs
    refine ⟨_, rfl, R, rfl, ⟨_, hR⟩, fun E nE => ?_⟩
    refine lc_it (walk_list (xs := zs)) (fun j Hj => Same H2 Hj ∧ ∃ us, Hj E = some (.lst us) ∧ us.length = j ∧ DpAll K (off Hj [E]) us (((rs.take j).map ppR).map ppD)) ⟨same_upd nE, [], upd_same, rfl, .nil⟩ (fun j Hj _ h => h.1.seq hR) ?_ ?_
    · rintro j y H4 H5 hj ⟨s4, us, hE, lu, du⟩ ⟨rfl, gy⟩
      obtain ⟨ar, r, rfl, har, gr⟩ := rw_at (dpAll_same s4 dz) gy
      refine ⟨rfl, tYes_at ?_⟩
      rw [if_pos rfl]
      refine ⟨_, rfl, ar, _, 0, _, rfl, rfl, har, rfl, _, rfl, ar, _, 1, _, rfl, rfl, har, rfl, (by show 2 ≤ sizeLine; decide), fun u nu => ?_⟩
      have lv1 : Live [E] H5 := fun x hx e => by rw [List.mem_singleton.mp hx, hE] at e; cases e
      have gu := off_new (o := .tup [.int (r.1 : Int), .int (r.2.1 : Int)]) lv1 nu
      have du := dpAll_same (sm_put (S := [E]) (o := .tup [.int (r.1 : Int), .int (r.2.1 : Int)]) nu) du
      have hE := same_upd (o := .tup [.int (r.1 : Int), .int (r.2.1 : Int)]) nu _ _ hE
      have s4 := s4.trans (same_upd (o := .tup [.int (r.1 : Int), .int (r.2.1 : Int)]) nu)
      generalize upd H5 u (.tup [.int (r.1 : Int), .int (r.2.1 : Int)]) = H6 at gu du hE s4 ⊢
      refine ⟨us, hE, (by rw [sizeLine_eq]; omega), same_put s4 nE, _, upd_same, (by rw [List.length_append, lu]; rfl), ?_⟩
      rw [List.take_add_one, gr, List.map_append, List.map_append]
      exact dpAll_same (sm_wr (by simp)) (dpAll_app' du (.cons (.tup (.inl (.inl gu)) (.cons (.int _) (.cons (.int _) .nil))) .nil))
    rintro H4 ⟨s4, us, hE, lu, du⟩
    rw [List.take_of_length_le (by omega)] at du
    refine ⟨E, us, rs.map ppR, rfl, SqL.of hE, dpAll_same off_sub du, (by rw [List.length_map]; omega), fun H5 s5 => ?_⟩
    have s5 := s4.trans s5
    refine ⟨_, rfl, ?_⟩
    cases hrb : (rbP (rs.map ppR)).all id with
    | false =>
      refine iteF ?_
      have := q _ (sm.trans s5)
      rw [hrb, Bool.false_and] at this
      exact this
    | true =>
    rw [hrb, Bool.true_and] at q
    refine iteT ?_
    refine ⟨_, rfl, _, rfl, R, o, 0, zs, ys, rs, os, rfl, by omega, s5.seq hR, dpAll_same s5 dz, by omega, s5.seq hO, dpAll_same s5 dO, by omega, fun H6 s6 => ?_⟩
    have s6 := s5.trans s6
    refine ⟨_, rfl, ?_⟩
    have e0 : ((List.range os.length).all fun k => decide (prS 0 rs k ≤ (os.getD k pc0).2)) = ((List.range os.length).all fun k => decide (orS rs k ≤ (os.getD k pc0).2)) := rfl
    rw [e0]
    unfold sumsB at q
    cases hos : ((List.range os.length).all fun k => decide (orS rs k ≤ (os.getD k pc0).2)) with
    | false =>
      refine iteF ?_
      have := q _ (sm.trans s6)
      rw [hos, Bool.and_false] at this
      exact this
    | true =>
    rw [hos, Bool.and_true] at q
    refine iteT ?_
    refine ⟨_, rfl, _, rfl, R, c, 1, zs, xs, rs, cs, rfl, by omega, s6.seq hR, dpAll_same s6 dz, by omega, s6.seq hC, dpAll_same s6 dc, by omega, fun H7 s7 => ?_⟩
    have e1 : ((List.range cs.length).all fun k => decide (prS 1 rs k ≤ (cs.getD k pc0).2)) = ((List.range cs.length).all fun k => decide (crS rs k ≤ (cs.getD k pc0).2)) := rfl
    rw [e1]
    exact q _ (sm.trans (s6.trans s7))

end
end Pot

namespace Pot
open PySem PySem.Spec PyProof.Rows L2
section
variable {P : Program} {w : World} {K : PySem.W.Frag} {mg : Str → Option Value} {base : Heap}
def tpD (l : List Int) : PyData := .tuple (l.map .int)
theorem tp_dp {H : Hp} {v : V} {l : List Int} (h : Dp K H v (tpD l)) : ∃ a, v = .ref a ∧ SqT K H a (l.map V.int) := by
  obtain ⟨a, xs, rfl, hs, ha⟩ := dp_tup h
  rw [dp_intsV ha] at hs
  exact ⟨a, rfl, hs⟩
theorem tp_of {H : Hp} {a : Addr} {l : List Int} (h : SqT K H a (l.map V.int)) : Dp K H (.ref a) (tpD l) := .tup h (dp_ints l)
theorem tps_nl {H H' : Hp} (s : Nl H H') : ∀ {ls : List (List Int)} {xs : List V}, DpAll K H xs (ls.map tpD) → DpAll K H' xs (ls.map tpD)
  | [], _, h => by
    cases h
    exact .nil
  | p :: ps, _, h => by
    cases h with
    | cons a r =>
      obtain ⟨t, rfl, ht⟩ := tp_dp a
      exact .cons (tp_of (sqT_nl s ht)) (tps_nl s r)
theorem tps_at {H : Hp} {xs : List V} {ls : List (List Int)} (h : DpAll K H xs (ls.map tpD)) {i : Nat} {v : V} (g : xs[i]? = some v) : ∃ a l, v = .ref a ∧ ls[i]? = some l ∧ SqT K H a (l.map V.int) := by
  obtain ⟨d, gd, dp⟩ := dpAll_at h g
  rw [List.getElem?_map] at gd
  obtain ⟨l, gl, rfl⟩ := Option.map_eq_some_iff.mp gd
  obtain ⟨a, rfl, hs⟩ := tp_dp dp
  exact ⟨a, l, rfl, gl, hs⟩
/-- all ways to take at most m, at most so many of each -/
def splF : List Int → Int → List (List Int)
  | [], _ => [[]]
  | t :: ts, m => (List.range (min m t + 1).toNat).flatMap fun j : Nat => (splF ts (m - (j : Int))).map fun r => (j : Int) :: r
theorem flat_len {α β : Type} {f : α → List β} {b : Nat} : ∀ {l : List α}, (∀ x ∈ l, (f x).length ≤ b) → (l.flatMap f).length ≤ l.length * b
  | [], _ => Nat.zero_le _
  | x :: l, h => by
    have h1 := h x List.mem_cons_self
    have h2 := flat_len (l := l) fun y hy => h y (List.mem_cons_of_mem _ hy)
    rw [List.flatMap_cons, List.length_append, List.length_cons, Nat.succ_mul]
    omega
theorem splF_len : ∀ {ts : List Int} {m : Int}, (∀ t ∈ ts, 0 ≤ t ∧ t ≤ 3) → (splF ts m).length ≤ 4 ^ ts.length
  | [], _, _ => Nat.le_refl _
  | t :: ts, m, h => by
    have h1 := h t List.mem_cons_self
    have h2 := flat_len (l := List.range (min m t + 1).toNat) (f := fun j : Nat => (splF ts (m - (j : Int))).map fun r => (j : Int) :: r) (b := 4 ^ ts.length) fun j _ => by
      rw [List.length_map]; exact splF_len fun x hx => h x (List.mem_cons_of_mem _ hx)
    refine Nat.le_trans h2 ?_
    rw [List.length_range, List.length_cons, Nat.pow_succ, Nat.mul_comm]
    exact Nat.mul_le_mul_left _ (by omega)
theorem splF_wid : ∀ {ts : List Int} {m : Int} {l : List Int}, l ∈ splF ts m → l.length = ts.length
  | [], _, l, h => by
    have h : l ∈ [[]] := h
    rw [List.mem_singleton.mp h]
  | t :: ts, m, l, h => by
    obtain ⟨j, _, h⟩ := List.mem_flatMap.mp (show l ∈ (List.range (min m t + 1).toNat).flatMap fun j : Nat => (splF ts (m - (j : Int))).map fun r => (j : Int) :: r from h)
    obtain ⟨r, hr, rfl⟩ := List.mem_map.mp h
    rw [List.length_cons, List.length_cons, splF_wid hr]
abbrev s__law_splits : Stmt := topS 17
def n__law_splits : List Str := ["_law_many", "_law_tops", "_law_found", "_law_some", "_law_rest"]
theorem sc__law_splits : FnScope n__law_splits ["_law_many", "_law_tops"] (defScope s__law_splits) := ⟨rfl, rfl, rfl, by decide +kernel, rfl, by decide +kernel, by decide +kernel⟩
def spSpl (K : PySem.W.Frag) (n : Nat) : Sp := fun vs H Q _ => ∃ (m : Int) (a : Addr) (ts : List Int), vs = [.int m, .ref a] ∧ SqL K H a (ts.map V.int) ∧ ts.length < n ∧ ts.length ≤ 4 ∧ 0 ≤ m ∧ m ≤ 3 ∧ (∀ t ∈ ts, 0 ≤ t ∧ t ≤ 3) ∧
  ∀ (H' : Hp) (R : Addr) (zs : List V), Same H H' → H R = none → H' R = some (.lst zs) → DpAll K H' zs ((splF ts m).map tpD) → Q (.ref R) H'
set_option maxHeartbeats 1000000 in
theorem ok_splits {f : Addr} {fd : FuncData} {k0 : Nat} (F : Fun K "_law_splits" "_law_splits" s__law_splits f fd) (T : Txt mg) (bF : Binds K fd ["_law_many", "_law_tops"] []) (gF : mg "_law_splits" = some (.ref f)) :
    ∀ k : Nat, FnOk P w K mg base CX0 (k0 + k + 1) f fd ["_law_many", "_law_tops"] (spSpl K k) := by
  intro k
  induction k with
  | zero =>
    refine F.ok sc__law_splits (fun vs H Q E h => ?_) (fun cdv A outer s H vs Q E hr h => ?_)
    · obtain ⟨m, a, ts, rfl, _⟩ := h
      rfl
    · obtain ⟨m, a, ts, rfl, _, hk, _⟩ := h
      exact absurd hk (Nat.not_lt_zero _)
  | succ k G =>
    refine F.ok sc__law_splits (fun vs H Q E h => ?_) (fun cdv A outer s H vs Q E hr h => ?_)
    · obtain ⟨m, a, ts, rfl, _⟩ := h
      rfl
    · obtain ⟨m, a, ts, rfl, hS, hk, h3, m0, m3, ht, q⟩ := h
      have nd := sc__law_splits.nd
      have hu64 := hr.units
      /- 0 _law_many, 1 _law_tops, 2 _law_found, 3 _law_some, 4 _law_rest -/
      refine ⟨_, (pss_cons (ps_if (pt_cmpR (ko_eq (K := K) hu64) (pv 1) (pe_lst pa_nil) (nomark _))
          (pss_one (ps_ret (pe_lst (pa_cons (pe_tup pa_nil) pa_nil))))
          pss_nil)
      (pss_cons (ps_set (i := 2) nd rfl (.inl rfl) (pe_lst pa_nil))
      (pss_cons (ps_for PassesOwn.never rfl (pi_range1 (by rfl) T.range (pa_cons (pe_op op_add (pe_callB (call_min2 rfl) (by rfl) T.min (by decide +kernel) (pa_cons (pv 0) (pa_cons (pe_ix (kx_list (K := K)) (pv 1) pe_int (fun _ _ => rfl)) pa_nil))) pe_int) pa_nil)) (pg_name (i := 3) nd rfl (.inr rfl))
          (pss_one (ps_expr (pe_bm PySem.F.plainAttrs_list PySem.F.slot_list_extend PySem.F.type_list_extend mt_extend (pv 2) (pa_cons (pe_lc (own := [("_law_rest", 4)]) rfl nd (ki_list (K := K) (pe_call G hr (by rfl) gF F.kp bF .nil pass0 (pa_cons (pe_op op_sub (pv 0) (pv 3)) (pa_cons (pe_slice (kl_list (K := K)) (pv 1) (po_some pe_int) po_none) pa_nil)))) (blkOk_by (N := n__law_splits) (sc := defScope s__law_splits) (by decide +kernel)) (fun _ _ _ _ _ => (pg_name (i := 4) nd rfl (.inl rfl))) (fun _ _ _ _ _ => pts_nil) (fun _ _ _ _ _ => (pe_op (ko_catA (K := K)) (pe_tup (pa_cons (pv 3) pa_nil)) (pv 4)))) pa_nil)))))
      (pss_one (ps_ret (pv 2)))))), ?_⟩
      refine ⟨_, rfl, Nat.zero_le _, fun l0 nl0 => ?_⟩
      have s0 := same_upd (o := .lst []) nl0
      have f0 : upd H l0 (.lst []) l0 = some (.lst []) := upd_same
      generalize upd H l0 (.lst []) = H1 at s0 f0 ⊢
      have hS0 := hS
      have hS := s0.seq hS
      refine ⟨.list (ts.map .int), .list (([] : List Int).map .int), .lst hS (dp_ints ts), .lst (SqL.of f0) .nil, PySem.W.ke_shaped_ints ts, PySem.W.ke_shaped_ints [], _, rfl, ?_⟩
      rw [eqv_ints]
      cases ts with
      | nil =>
        refine iteT ⟨Nat.zero_le _, fun p np => ⟨(by show 1 ≤ sizeLine; decide), fun r nr => ?_⟩⟩
        have s1 := same_upd (o := .tup []) np
        have s2 := same_upd (o := .lst [.ref p]) nr
        exact q _ r _ (s0.trans (s1.trans s2)) (same_free (s0.trans s1) nr) upd_same (.cons (.tup (.inl (.inl (s2 _ _ upd_same))) .nil) .nil)
      | cons t ts =>
        refine iteF ?_
        have t1 := ht t List.mem_cons_self
        refine ⟨Nat.zero_le _, fun L nL => ?_⟩
        have nL0 := same_free s0 nL
        have s1 := s0.trans (same_upd (o := .lst []) nL)
        have hS := (same_upd (o := .lst []) nL).seq hS
        have fL : upd H1 L (.lst []) L = some (.lst []) := upd_same
        generalize upd H1 L (.lst []) = H2 at s1 fL hS ⊢
        have ecnt : (if t < m then t else m) + 1 = min m t + 1 := by split <;> omega
        refine ⟨_, rfl, _, rfl, a, _, 0, _, rfl, rfl, hS, (show atI ((t :: ts).map V.int) ((0 : Nat) : Int) = some (.int t) from atI_nat rfl), _, _, rfl, _, _, rfl, rfl, _, rfl, (by rw [ecnt]; omega), (by rw [ecnt]; omega), ?_⟩
        rw [ecnt]
        have hl1 : (splF (t :: ts) m).length ≤ 256 := Nat.le_trans (splF_len ht) (Nat.le_trans (Nat.pow_le_pow_right (by decide) h3) (by decide))
        obtain ⟨pf, epf⟩ : ∃ pf : Nat → List (List Int), pf = fun n => (List.range n).flatMap fun j : Nat => (splF ts (m - (j : Int))).map fun r => (j : Int) :: r := ⟨_, rfl⟩
        have efin : splF (t :: ts) m = pf (min m t + 1).toNat := by rw [epf]; rfl
        have esuc : ∀ n : Nat, pf (n + 1) = pf n ++ (splF ts (m - (n : Int))).map fun r => (n : Int) :: r := fun n => by
          rw [epf]; dsimp only; rw [List.range_succ, List.flatMap_append, List.flatMap_cons, List.flatMap_nil, List.append_nil]
        have hlp : ∀ n : Nat, n ≤ 4 → (pf n).length ≤ 1024 := fun n hn => by
          rw [epf]
          refine Nat.le_trans (flat_len (b := 256) fun j _ => ?_) ?_
          · rw [List.length_map]
            exact Nat.le_trans (splF_len fun x hx => ht x (List.mem_cons_of_mem _ hx)) (Nat.le_trans (Nat.pow_le_pow_right (by decide) (by simp only [List.length_cons] at h3; omega : ts.length ≤ 4)) (by decide))
          · rw [List.length_range]; exact Nat.mul_le_mul_right 256 hn
        refine for_it walk_range (fun j σ Hx => ∃ v3 v4 zs, σ = [some (.int m), some (.ref a), some (.ref L), v3, v4] ∧ Same H Hx ∧ Hx L = some (.lst zs) ∧ DpAll K Hx zs ((pf j).map tpD)) ⟨none, none, [], rfl, s1, fL, by rw [epf]; exact .nil⟩ (fun _ _ _ _ _ => trivial) ?_ ?_
        · rintro j x σ Hx Hy hj ⟨v3, v4, zs, rfl, sx, gL, dz⟩ ⟨rfl, rfl⟩
          have hj4 : (j : Int) ≤ m ∧ (j : Int) ≤ t := by omega
          simp only [gName, List.set]
          refine ⟨_, rfl, .inl ⟨rfl, _, SqL.of gL⟩, _, rfl, _, rfl, _, _, rfl, rfl, _, rfl, _, rfl, a, _, rfl, sx.seq hS0, fun p np => ?_⟩
          have ec : cutV ((t :: ts).map V.int) (some (1 : Int)) none = ts.map V.int := cut_tail (k := 1)
          rw [ec]
          have s3 := same_upd (o := .lst (ts.map V.int)) np
          have fp : upd Hy p (.lst (ts.map V.int)) p = some (.lst (ts.map V.int)) := upd_same
          have gL := s3 _ _ gL
          have dz := dpAll_same s3 dz
          have sx := sx.trans s3
          generalize upd Hy p (.lst (ts.map V.int)) = H3 at s3 fp gL dz sx ⊢
          simp only [List.length_cons] at hk h3
          refine ⟨_, p, ts, rfl, SqL.of fp, by omega, by omega, by omega, by omega, fun x hx => ht x (List.mem_cons_of_mem _ hx), fun H4 R rs s4 nR hR dr => ⟨R, rfl, ⟨_, SqL.of hR⟩, fun D nD => ?_⟩⟩
          have gL := s4 _ _ gL
          have dz := dpAll_same s4 dz
          have sx := sx.trans s4
          rw [Int.zero_add] at dr
          have es := esuc j
          have l4 := hlp j (by omega)
          have l5 := hlp (j + 1) (by omega)
          rw [es] at l5 ⊢
          have hlen : ∀ l ∈ splF ts (m - (j : Int)), l.length ≤ 4 := fun l hl => by have := splF_wid hl; omega
          generalize splF ts (m - (j : Int)) = sp at dr l5 hlen ⊢
          generalize pf j = pj at dz l4 l5 ⊢
          have lrs : rs.length = sp.length := dpAll_map_len dr
          have lzs : zs.length = pj.length := dpAll_map_len dz
          rw [List.length_append, List.length_map] at l5
          have LD := ne_of_none gL nD
          refine lc_it (walk_list (xs := rs)) (fun i Hx => Same H4 Hx ∧ ∃ us, Hx D = some (.lst us) ∧ DpAll K Hx us (((sp.take i).map fun r => (j : Int) :: r).map tpD)) ⟨same_upd nD, [], upd_same, .nil⟩ (fun i Hx _ h => (SqL.of (h.1 _ _ hR))) ?_ ?_
          · rintro i y H5 H6 hi ⟨s5, us, hD, du⟩ ⟨rfl, gy⟩
            obtain ⟨q2, l, rfl, gl, hq⟩ := tps_at (dpAll_same s5 dr) gy
            refine ⟨rfl, tYes_at ?_⟩
            rw [if_pos rfl]
            refine ⟨_, rfl, (by show 1 ≤ sizeLine; decide), fun w1 nw => ?_⟩
            have s6 := same_upd (o := .tup [.int (0 + (j : Int))]) nw
            have fw : upd H6 w1 (.tup [.int (0 + (j : Int))]) w1 = some (.tup [.int (0 + (j : Int))]) := upd_same
            have hq := same_tup s6 hq
            have hD := s6 _ _ hD
            have du := dpAll_same s6 du
            have s5 := s5.trans s6
            generalize upd H6 w1 (.tup [.int (0 + (j : Int))]) = H7 at fw hq hD du s5 ⊢
            refine ⟨_, rfl, ?_⟩
            have ll : l.length ≤ 1024 := by
              have := hlen l (List.mem_of_getElem? gl); omega
            have e1 : (((sp.take (i + 1)).map fun r => (j : Int) :: r)).map tpD = (((sp.take i).map fun r => (j : Int) :: r)).map tpD ++ [tpD ((j : Int) :: l)] := by
              rw [List.take_add_one, gl, List.map_append, List.map_append]; rfl
            have lus : us.length ≤ 1024 := by
              rw [dpAll_map_len du, List.length_map, List.length_take]; omega
            refine ⟨w1, q2, _, _, rfl, rfl, .inl (.inl fw), hq, (by rw [sizeLine_eq, List.length_map]; show 1 + _ ≤ _; omega), ?_⟩
            have fin : ∀ (Hq : Hp) (p : Addr), Same H7 Hq → SqT K Hq p (((j : Int) :: l).map V.int) → ∃ acc, Hq D = some (.lst acc) ∧ acc.length < sizeLine ∧ Same H4 (upd Hq D (.lst (acc ++ [V.ref p]))) ∧ ∃ us, upd Hq D (.lst (acc ++ [V.ref p])) D = some (.lst us) ∧ DpAll K (upd Hq D (.lst (acc ++ [V.ref p]))) us ((((sp.take (i + 1)).map fun r => (j : Int) :: r)).map tpD) := fun Hq p s fp => by
              have hD := s _ _ hD
              refine ⟨us, hD, by rw [sizeLine_eq]; omega, same_put (s5.trans s) nD, us ++ [.ref p], upd_same, ?_⟩
              rw [e1]
              exact dpAll_app' (tps_nl (Nl.wr hD) (dpAll_same s du)) (.cons (tp_of (sqT_nl (Nl.wr hD) fp)) .nil)
            have ez : (0 : Int) + (j : Int) = j := Int.zero_add _
            refine ⟨fun z => (List.cons_ne_nil _ _ z).elim, fun _ z => ?_, fun _ _ p np => ?_⟩
            · have el : l = [] := by cases l with
                | nil => rfl
                | cons _ _ => cases z
              refine fin _ w1 (Same.refl _) ?_
              rw [el]; rw [ez] at fw
              exact .inl (.inl fw)
            · refine fin _ p (same_upd np) ?_
              rw [ez]
              exact .inl (.inl upd_same)
          · rintro H5 ⟨s5, us, hD, du⟩
            rw [List.take_of_length_le (by omega)] at du
            have lus : us.length = sp.length := by rw [dpAll_map_len du, List.length_map]
            have gL5 := s5 _ _ gL
            refine ⟨L, D, zs, us, rfl, rfl, gL5, hD, (by rw [sizeLine_eq]; omega), ?_⟩
            have n5 := Nl.wr (o := .lst (zs ++ us)) gL5
            refine ⟨_, _, zs ++ us, rfl, same_put (sx.trans s5) nL0, upd_same, ?_⟩
            rw [List.map_append]
            exact dpAll_app' (tps_nl n5 (dpAll_same s5 dz)) (tps_nl n5 du)
        · rintro σ Hx ⟨v3, v4, zs, rfl, sx, gL, dz⟩
          rw [← efin] at dz
          exact ⟨_, rfl, q _ L zs sx nL0 gL dz⟩

end
end Pot

namespace Pot
open PySem PySem.Spec PyProof.Rows L2
section
variable {P : Program} {w : World} {K : PySem.W.Frag} {mg : Str → Option Value} {base : Heap}
/-! ### what all ways come to -/
theorem sg_add (f g : Nat → Int) : ∀ n, sg (fun k => f k + g k) n = sg f n + sg g n
  | 0 => rfl
  | n + 1 => by
    show sg _ n + (f n + g n) = sg f n + f n + (sg g n + g n)
    rw [sg_add f g n]; omega
theorem sg_cons (f : Nat → Int) : ∀ n, sg f (n + 1) = f 0 + sg (fun k => f (k + 1)) n
  | 0 => by show 0 + f 0 = f 0 + 0; omega
  | n + 1 => by
    show sg f (n + 1) + f (n + 1) = f 0 + (sg (fun k => f (k + 1)) n + f (n + 1))
    rw [sg_cons f n]; omega
theorem sum_sg : ∀ s : List Int, s.sum = sg (fun k => s.getD k 0) s.length
  | [] => rfl
  | x :: s => by
    rw [List.sum_cons, List.length_cons, sg_cons, sum_sg s]; rfl
def Fits (s t : List Int) : Prop := s.length = t.length ∧ ∀ k, k < t.length → 0 ≤ s.getD k 0 ∧ s.getD k 0 ≤ t.getD k 0
theorem fits_cons {x y : Int} {s t : List Int} : Fits (x :: s) (y :: t) ↔ (0 ≤ x ∧ x ≤ y) ∧ Fits s t := by
  constructor
  · rintro ⟨h1, h2⟩
    exact ⟨h2 0 (by simp), by simpa using h1, fun k hk => h2 (k + 1) (by rw [List.length_cons]; omega)⟩
  · rintro ⟨h1, h2, h3⟩
    refine ⟨by rw [List.length_cons, List.length_cons, h2], fun k hk => ?_⟩
    cases k with
    | zero => exact h1
    | succ k => exact h3 k (by rw [List.length_cons] at hk; omega)
theorem mem_splF : ∀ {t : List Int} {m : Int} {s : List Int}, 0 ≤ m → (∀ x ∈ t, 0 ≤ x) → (s ∈ splF t m ↔ Fits s t ∧ s.sum ≤ m)
  | [], m, s, m0, _ => by
    show s ∈ [[]] ↔ _
    rw [List.mem_singleton]
    constructor
    · rintro rfl
      exact ⟨⟨rfl, fun k hk => absurd hk (Nat.not_lt_zero _)⟩, m0⟩
    · rintro ⟨⟨h, _⟩, _⟩
      exact List.length_eq_zero_iff.mp h
  | y :: t, m, s, m0, h0 => by
    show s ∈ (List.range (min m y + 1).toNat).flatMap (fun j : Nat => (splF t (m - (j : Int))).map fun r => (j : Int) :: r) ↔ _
    have y0 := h0 y List.mem_cons_self
    have t0 := fun x hx => h0 x (List.mem_cons_of_mem y hx)
    rw [List.mem_flatMap]
    constructor
    · rintro ⟨j, hj, h⟩
      have hj := List.mem_range.mp hj
      obtain ⟨r, hr, rfl⟩ := List.mem_map.mp h
      obtain ⟨h1, h2⟩ := (mem_splF (by omega) t0).mp hr
      exact ⟨fits_cons.mpr ⟨by omega, h1⟩, by rw [List.sum_cons]; omega⟩
    · rintro ⟨h1, h2⟩
      cases s with
      | nil => exact absurd h1.1 (by simp)
      | cons x s =>
        obtain ⟨hx, h3⟩ := fits_cons.mp h1
        rw [List.sum_cons] at h2
        have hs : 0 ≤ s.sum := by
          rw [sum_sg]
          exact sg_nonneg fun k hk => (h3.2 k (by rw [← h3.1]; exact hk)).1
        refine ⟨x.toNat, List.mem_range.mpr (by omega), List.mem_map.mpr ⟨s, (mem_splF (by omega) t0).mpr ⟨h3, by omega⟩, ?_⟩⟩
        rw [Int.toNat_of_nonneg hx.1]
def topsF (cs : List Pc) (rk : Int) (l : List Int) : List Int := (List.range cs.length).map fun k => (if rk ≤ (cs.getD k pc0).1 then 1 else 0) * l.getD k 0
def lessF (l s : List Int) : List Int := (List.range l.length).map fun k => l.getD k 0 - s.getD k 0
theorem rm_getD {f : Nat → Int} {n k : Nat} (h : k < n) : ((List.range n).map f).getD k 0 = f k := by
  rw [List.getD_eq_getElem?_getD, List.getElem?_map, List.getElem?_range h]; rfl
def usdF (cs : List Pc) (l : List Int) (r : Int) : Int := sg (fun k => if r ≤ (cs.getD k pc0).1 then (cs.getD k pc0).2 - l.getD k 0 else 0) cs.length
def blwF (os : List Pc) (i : Nat) (r : Int) : Int := sg (fun j => if (os.getD j pc0).1 < r then (os.getD j pc0).2 else 0) i
structure Snd (cs os : List Pc) (i : Nat) (l : List Int) (x : Int) : Prop where
  len : l.length = cs.length
  box : ∀ k, k < cs.length → 0 ≤ l.getD k 0 ∧ l.getD k 0 ≤ (cs.getD k pc0).2
  low : 0 ≤ x
  up : ∀ r, x ≤ blwF os i r + usdF cs l r
theorem tops_fit {cs : List Pc} {rk : Int} {l s : List Int} (h : Fits s (topsF cs rk l)) : s.length = cs.length ∧ ∀ k, k < cs.length → 0 ≤ s.getD k 0 ∧ s.getD k 0 ≤ (if rk ≤ (cs.getD k pc0).1 then 1 else 0) * l.getD k 0 := by
  have e : (topsF cs rk l).length = cs.length := by unfold topsF; rw [List.length_map, List.length_range]
  refine ⟨h.1.trans e, fun k hk => ?_⟩
  have h2 := h.2 k (by rw [e]; exact hk)
  unfold topsF at h2
  rw [rm_getD hk] at h2
  exact h2
theorem snd_step {cs os : List Pc} {i : Nat} {l s : List Int} {x : Int} (h : Snd cs os i l x) (ho : ∀ p ∈ os, PcOk p) (hi : i < os.length) (hs : Fits s (topsF cs (os.getD i pc0).1 l)) (hm : s.sum ≤ (os.getD i pc0).2) : Snd cs os (i + 1) (lessF l s) (x + s.sum) := by
  obtain ⟨ls, hs⟩ := tops_fit hs
  have h2 : ∀ k, k < cs.length → 0 ≤ s.getD k 0 ∧ s.getD k 0 ≤ l.getD k 0 ∧ (¬ (os.getD i pc0).1 ≤ (cs.getD k pc0).1 → s.getD k 0 = 0) := fun k hk => by
    have h1 := hs k hk
    have := h.box k hk
    by_cases z : (os.getD i pc0).1 ≤ (cs.getD k pc0).1
    · rw [if_pos z] at h1
      exact ⟨h1.1, by omega, fun y => absurd z y⟩
    · rw [if_neg z] at h1
      exact ⟨h1.1, by omega, fun _ => by omega⟩
  have lg : ∀ k, k < cs.length → (lessF l s).getD k 0 = l.getD k 0 - s.getD k 0 := fun k hk => by
    unfold lessF
    exact rm_getD (by rw [h.len]; exact hk)
  have s0 : 0 ≤ s.sum := by
    rw [sum_sg, ls]
    exact sg_nonneg fun k hk => (h2 k hk).1
  refine ⟨by unfold lessF; rw [List.length_map, List.length_range, h.len], fun k hk => ?_, by have := h.low; omega, fun r => ?_⟩
  · rw [lg k hk]
    have := h2 k hk
    have := h.box k hk
    omega
  · have up := h.up r
    have m0 := (pcs_getD ho hi).2.2.1
    have eb : blwF os (i + 1) r = blwF os i r + if (os.getD i pc0).1 < r then (os.getD i pc0).2 else 0 := rfl
    have eu : usdF cs (lessF l s) r = usdF cs l r + sg (fun k => if r ≤ (cs.getD k pc0).1 then s.getD k 0 else 0) cs.length := by
      unfold usdF
      rw [← sg_add]
      refine sg_congr fun k hk => ?_
      rw [lg k hk]
      split <;> omega
    rw [eb, eu]
    by_cases z : (os.getD i pc0).1 < r
    · rw [if_pos z]
      have : 0 ≤ sg (fun k => if r ≤ (cs.getD k pc0).1 then s.getD k 0 else 0) cs.length := sg_nonneg fun k hk => by
        have := h2 k hk
        split <;> omega
      omega
    · rw [if_neg z]
      have : sg (fun k => if r ≤ (cs.getD k pc0).1 then s.getD k 0 else 0) cs.length = s.sum := by
        rw [sum_sg, ls]
        refine sg_congr fun k hk => ?_
        by_cases y : r ≤ (cs.getD k pc0).1
        · rw [if_pos y]
        · rw [if_neg y]
          exact ((h2 k hk).2.2 (by omega)).symm
      omega
theorem snd_end {cs os : List Pc} {l : List Int} {x : Int} (h : Snd cs os os.length l x) (r : Int) : x ≤ (os.map (·.2)).sum - abvF os r + abvF cs r := by
  have u1 : usdF cs l r ≤ abvF cs r := by
    rw [abv_sg]
    refine sg_le fun k hk => ?_
    unfold gF
    have := h.box k hk
    split <;> omega
  have u2 : blwF os os.length r = (os.map (·.2)).sum - abvF os r := by
    have : blwF os os.length r + abvF os r = (os.map (·.2)).sum := by
      rw [abv_sg, all_sum]
      unfold blwF
      rw [← sg_add]
      refine sg_congr fun k hk => ?_
      unfold gF
      by_cases z : (os.getD k pc0).1 < r
      · rw [if_pos z, if_neg (by omega)]; omega
      · rw [if_neg z, if_pos (by omega)]; omega
    omega
  have := h.up r
  omega
theorem snd_start {cs os : List Pc} (hc : ∀ p ∈ cs, PcOk p) : Snd cs os 0 (cs.map (·.2)) 0 := by
  have g : ∀ k, k < cs.length → (cs.map (·.2)).getD k 0 = (cs.getD k pc0).2 := fun k hk => by
    rw [List.getD_eq_getElem?_getD, List.getElem?_map, List.getElem?_eq_getElem hk, List.getD_eq_getElem?_getD, List.getElem?_eq_getElem hk]; rfl
  refine ⟨List.length_map _, fun k hk => ?_, Int.le_refl 0, fun r => ?_⟩
  · rw [g k hk]
    exact ⟨(pcs_getD hc hk).2.2.1, Int.le_refl _⟩
  · have : usdF cs (cs.map (·.2)) r = 0 := sg_zero fun k hk => by
      rw [g k hk]; split <;> omega
    rw [this]
    show 0 ≤ (0 : Int) + 0
    omega
/-! the way that the told rows go -/
def rcF (rs : List Rw) (i k : Nat) : Int := ((rs.filter fun r => decide (r.1 = i ∧ r.2.1 = k)).map fun r => r.2.2).sum
def goneF (rs : List Rw) : Nat → Nat → Int
  | 0, _ => 0
  | i + 1, k => goneF rs i k + rcF rs i k
def leftF (cs : List Pc) (rs : List Rw) (i : Nat) : List Int := (List.range cs.length).map fun k => (cs.getD k pc0).2 - goneF rs i k
def takeF (cs : List Pc) (rs : List Rw) (i : Nat) : List Int := (List.range cs.length).map fun k => rcF rs i k
def doneF (cs : List Pc) (rs : List Rw) : Nat → Int
  | 0 => 0
  | i + 1 => doneF cs rs i + (takeF cs rs i).sum
theorem left_start (cs : List Pc) (rs : List Rw) : leftF cs rs 0 = cs.map (·.2) := by
  refine List.ext_getElem? fun k => ?_
  unfold leftF
  rw [List.getElem?_map, List.getElem?_map]
  by_cases hk : k < cs.length
  · rw [List.getElem?_range hk, List.getElem?_eq_getElem hk]
    show some ((cs.getD k pc0).2 - 0) = _
    rw [List.getD_eq_getElem?_getD, List.getElem?_eq_getElem hk, Int.sub_zero]; rfl
  · rw [List.getElem?_eq_none (by rw [List.length_range]; omega), List.getElem?_eq_none (by omega)]; rfl
theorem left_step (cs : List Pc) (rs : List Rw) (i : Nat) : lessF (leftF cs rs i) (takeF cs rs i) = leftF cs rs (i + 1) := by
  unfold lessF
  have e : (leftF cs rs i).length = cs.length := by unfold leftF; rw [List.length_map, List.length_range]
  rw [e]
  show _ = (List.range cs.length).map _
  refine List.map_congr_left fun k hk => ?_
  have hk := List.mem_range.mp hk
  unfold leftF takeF
  rw [rm_getD hk, rm_getD hk]
  show _ - _ - _ = _ - (_ + _)
  omega
theorem rc_cons (r : Rw) (rs : List Rw) (i k : Nat) : rcF (r :: rs) i k = (if r.1 = i ∧ r.2.1 = k then r.2.2 else 0) + rcF rs i k := by
  unfold rcF
  by_cases h : r.1 = i ∧ r.2.1 = k
  · rw [if_pos h, List.filter_cons_of_pos (p := fun r : Rw => decide (r.1 = i ∧ r.2.1 = k)) (decide_eq_true h), List.map_cons, List.sum_cons]
  · rw [if_neg h, List.filter_cons_of_neg (p := fun r : Rw => decide (r.1 = i ∧ r.2.1 = k)) (by simpa using h)]; omega
theorem gone_cons (r : Rw) (rs : List Rw) (k : Nat) : ∀ i, goneF (r :: rs) i k = (if r.1 < i ∧ r.2.1 = k then r.2.2 else 0) + goneF rs i k
  | 0 => by rw [if_neg (fun z => Nat.not_lt_zero _ z.1)]; rfl
  | i + 1 => by
    show goneF (r :: rs) i k + rcF (r :: rs) i k = _ + (goneF rs i k + rcF rs i k)
    rw [gone_cons r rs k i, rc_cons]
    by_cases h2 : r.2.1 = k
    · by_cases h : r.1 < i
      · rw [if_pos ⟨h, h2⟩, if_neg (fun z => by omega), if_pos ⟨by omega, h2⟩]; omega
      · by_cases h3 : r.1 = i
        · rw [if_neg (fun z => h z.1), if_pos ⟨h3, h2⟩, if_pos ⟨by omega, h2⟩]; omega
        · rw [if_neg (fun z => h z.1), if_neg (fun z => h3 z.1), if_neg (fun z => by omega)]; omega
    · rw [if_neg (fun z => h2 z.2), if_neg (fun z => h2 z.2), if_neg (fun z => h2 z.2)]; omega
theorem or_cons (r : Rw) (rs : List Rw) (i : Nat) : orS (r :: rs) i = (if r.1 = i then r.2.2 else 0) + orS rs i := by rw [← orS_one]; exact fs_app [r] rs
theorem cr_cons (r : Rw) (rs : List Rw) (k : Nat) : crS (r :: rs) k = (if r.2.1 = k then r.2.2 else 0) + crS rs k := by rw [← crS_one]; exact fs_app [r] rs
theorem gone_nil : ∀ i k, goneF [] i k = 0
  | 0, _ => rfl
  | i + 1, k => by show goneF [] i k + 0 = 0; rw [gone_nil i k]; rfl
theorem rc_nn {i k : Nat} : ∀ {rs : List Rw}, (∀ r ∈ rs, 0 ≤ r.2.2) → 0 ≤ rcF rs i k
  | [], _ => Int.le_refl 0
  | r :: rs, h => by
    have h1 := rc_nn (i := i) (k := k) fun x hx => h x (List.mem_cons_of_mem r hx)
    have h2 := h r List.mem_cons_self
    rw [rc_cons]; split <;> omega
theorem rc_zero {i k : Nat} : ∀ {rs : List Rw}, (∀ r ∈ rs, ¬ (r.1 = i ∧ r.2.1 = k)) → rcF rs i k = 0
  | [], _ => rfl
  | r :: rs, h => by
    rw [rc_cons, if_neg (h r List.mem_cons_self), rc_zero fun x hx => h x (List.mem_cons_of_mem r hx)]; rfl
theorem gone_cr {i k : Nat} : ∀ {rs : List Rw}, (∀ r ∈ rs, 0 ≤ r.2.2) → goneF rs i k ≤ crS rs k
  | [], _ => by rw [gone_nil]; exact Int.le_refl 0
  | r :: rs, h => by
    have h1 := gone_cr (i := i) (k := k) fun x hx => h x (List.mem_cons_of_mem r hx)
    have h2 := h r List.mem_cons_self
    rw [gone_cons, cr_cons]
    by_cases z : r.2.1 = k
    · rw [if_pos z]; split <;> omega
    · rw [if_neg z, if_neg (fun y => z y.2)]; omega
theorem one_sg (c : Prop) [Decidable c] (j : Nat) (x : Int) : ∀ {n : Nat}, j < n → sg (fun k => if c ∧ j = k then x else 0) n = if c then x else 0
  | 0, h => absurd h (Nat.not_lt_zero _)
  | n + 1, h => by
    show sg _ n + (if c ∧ j = n then x else 0) = _
    by_cases e : j = n
    · have : sg (fun k => if c ∧ j = k then x else 0) n = 0 := sg_zero fun k hk => if_neg (fun z => by omega)
      rw [this]
      by_cases hc : c
      · rw [if_pos ⟨hc, e⟩, if_pos hc]; omega
      · rw [if_neg (fun z => hc z.1), if_neg hc]; omega
    · rw [one_sg c j x (by omega), show (if c ∧ j = n then x else 0) = 0 from if_neg (fun z => e z.2)]; omega
theorem rc_sum {i n : Nat} : ∀ {rs : List Rw}, (∀ r ∈ rs, r.2.1 < n) → sg (rcF rs i) n = orS rs i
  | [], _ => sg_zero fun _ _ => rfl
  | r :: rs, h => by
    rw [or_cons, ← rc_sum fun x hx => h x (List.mem_cons_of_mem r hx), ← one_sg (r.1 = i) r.2.1 r.2.2 (h r List.mem_cons_self), ← sg_add]
    exact sg_congr fun k _ => rc_cons r rs i k
theorem or_sum {n : Nat} : ∀ {rs : List Rw}, (∀ r ∈ rs, r.1 < n) → sg (orS rs) n = sumR rs
  | [], _ => sg_zero fun _ _ => rfl
  | r :: rs, h => by
    have e : sumR (r :: rs) = r.2.2 + sumR rs := rfl
    rw [e, ← or_sum fun x hx => h x (List.mem_cons_of_mem r hx)]
    have e2 := one_sg True r.1 r.2.2 (h r List.mem_cons_self)
    rw [if_pos trivial] at e2
    rw [← e2, ← sg_add]
    refine sg_congr fun k _ => ?_
    rw [or_cons]
    by_cases z : r.1 = k
    · rw [if_pos z, if_pos ⟨trivial, z⟩]
    · rw [if_neg z, if_neg (fun y => z y.2)]
theorem take_sum {cs os : List Pc} {rs : List Rw} (h : RowsOk cs os rs) (i : Nat) : (takeF cs rs i).sum = orS rs i := by
  rw [← rc_sum (n := cs.length) fun r hr => (h.rows r hr).2.1, sum_sg]
  have e : (takeF cs rs i).length = cs.length := by unfold takeF; rw [List.length_map, List.length_range]
  rw [e]
  exact sg_congr fun k hk => by unfold takeF; exact rm_getD hk
theorem take_fits {cs os : List Pc} {rs : List Rw} (h : RowsOk cs os rs) (hc : ∀ p ∈ cs, PcOk p) {i : Nat} (hi : i < os.length) : Fits (takeF cs rs i) (topsF cs (os.getD i pc0).1 (leftF cs rs i)) ∧ (takeF cs rs i).sum ≤ (os.getD i pc0).2 := by
  have nn : ∀ r ∈ rs, 0 ≤ r.2.2 := fun r hr => by have := (h.rows r hr).2.2.2; omega
  refine ⟨⟨by unfold takeF topsF; rw [List.length_map, List.length_map], fun k hk => ?_⟩, by rw [take_sum h]; exact h.ors i hi⟩
  have hk : k < cs.length := by unfold topsF at hk; rwa [List.length_map, List.length_range] at hk
  unfold takeF topsF leftF
  rw [rm_getD hk, rm_getD hk, rm_getD hk]
  have r0 := rc_nn (i := i) (k := k) nn
  refine ⟨r0, ?_⟩
  by_cases z : (os.getD i pc0).1 ≤ (cs.getD k pc0).1
  · rw [if_pos z]
    have g : goneF rs (i + 1) k ≤ crS rs k := gone_cr nn
    have g : goneF rs i k + rcF rs i k ≤ crS rs k := g
    have := h.crs k
    omega
  · rw [if_neg z, rc_zero fun r hr y => ?_]
    · omega
    · have := (h.rows r hr).2.2.1
      rw [y.1, y.2] at this
      exact z this
theorem done_all {cs os : List Pc} {rs : List Rw} (h : RowsOk cs os rs) : doneF cs rs os.length = sumR rs := by
  rw [← or_sum (n := os.length) fun r hr => (h.rows r hr).1]
  have : ∀ n, doneF cs rs n = sg (orS rs) n := fun n => by
    induction n with
    | zero => rfl
    | succ n ih => show doneF cs rs n + (takeF cs rs n).sum = sg (orS rs) n + orS rs n; rw [ih, take_sum h]
  exact this _
theorem most_is {cs os : List Pc} {rs : List Rw} {lack : Int} (S : ShT cs os rs lack) (hc : ∀ p ∈ cs, PcOk p) (ho : ∀ p ∈ os, PcOk p) {l : List Int} {x : Int} (h : Snd cs os os.length l x) : x ≤ sumR rs := by
  have e := S.lk
  rcases S.c2 with z | ⟨j, _, z⟩
  · have := snd_end h 10
    have a : ∀ {ps : List Pc}, (∀ p ∈ ps, PcOk p) → abvF ps 10 = 0 := fun hp => by
      rw [abv_sg]
      refine sg_zero fun k hk => ?_
      have := (pcs_getD hp hk).2.1
      unfold gF; rw [if_neg (by omega)]
    rw [a hc, a ho] at this
    omega
  · have := snd_end h (os.getD j pc0).1
    omega

end
end Pot

namespace Pot
open PySem PySem.Spec PyProof.Rows L2
section
variable {P : Program} {w : World} {K : PySem.W.Frag} {mg : Str → Option Value} {base : Heap}
def ek (l : List Int) : List Key := l.map Sum.inl
theorem ek_kV (l : List Int) : (ek l).map kV = l.map V.int := by unfold ek; rw [List.map_map]; rfl
theorem ek_inj {a b : List Int} (h : ek a = ek b) : a = b := by
  have h2 := congrArg (List.map fun k : Key => match k with | .inl i => i | .inr _ => 0) h
  unfold ek at h2
  rw [List.map_map, List.map_map] at h2
  have e : ((fun k : Key => match k with | .inl i => i | .inr _ => 0) ∘ Sum.inl) = (id : Int → Int) := rfl
  rw [e, List.map_id, List.map_id] at h2
  exact h2
theorem valV_mem {k : List Key} {v : V} : ∀ {kvs : List (List Key × V)}, valV kvs k = some v → (k, v) ∈ kvs
  | [], h => by rw [valV_nil] at h; cases h
  | p :: r, h => by
    by_cases e : p.1 = k
    · rw [valV_pos e] at h
      obtain rfl := Option.some.inj h
      rw [← e]; exact List.mem_cons_self
    · rw [valV_neg e] at h
      exact List.mem_cons_of_mem _ (valV_mem h)
theorem mem_valV {p : List Key × V} : ∀ {kvs : List (List Key × V)}, p ∈ kvs → ∃ v, valV kvs p.1 = some v
  | [], h => (List.not_mem_nil h).elim
  | q :: r, h => by
    by_cases e : q.1 = p.1
    · exact ⟨_, valV_pos e⟩
    · rw [valV_neg e]
      rcases List.mem_cons.mp h with rfl | h
      · exact absurd rfl e
      · exact mem_valV h
theorem mem_putK {kvs : List (List Key × V)} {k : List Key} {v : V} {p : List Key × V} (h : p ∈ putK kvs k v) : p = (k, v) ∨ p ∈ kvs := by
  unfold putK at h
  split at h
  · obtain ⟨q, hq, e⟩ := List.mem_map.mp h
    split at e
    · rename_i z
      exact .inl (by rw [← e, z])
    · exact .inr (e ▸ hq)
  · rcases List.mem_append.mp h with h | h
    · exact .inr h
    · exact .inl (List.mem_singleton.mp h)
theorem nd_len {α : Type} [DecidableEq α] : ∀ {l m : List α}, l.Nodup → (∀ x ∈ l, x ∈ m) → l.length ≤ m.length
  | [], _, _, _ => Nat.zero_le _
  | x :: l, m, n, h => by
    have hx := h x List.mem_cons_self
    obtain ⟨n1, n2⟩ := List.nodup_cons.mp n
    have := nd_len (l := l) (m := m.erase x) n2 fun y hy => (List.mem_erase_of_ne (fun e => n1 (by rw [← e]; exact hy))).mpr (h y (List.mem_cons_of_mem _ hy))
    rw [List.length_erase_of_mem hx] at this
    have := List.length_pos_of_mem hx
    rw [List.length_cons]; omega
theorem keys_putK {kvs : List (List Key × V)} {k : List Key} {v : V} (h : (kvs.map Prod.fst).Nodup) : ((putK kvs k v).map Prod.fst).Nodup := by
  cases e : valV kvs k with
  | none =>
    rw [L2.putK_new v e, List.map_append]
    refine List.nodup_append.mpr ⟨h, List.nodup_cons.mpr ⟨List.not_mem_nil, List.nodup_nil⟩, fun a ha b hb z => ?_⟩
    rw [List.mem_singleton.mp hb] at z
    obtain ⟨p, hp, ep⟩ := List.mem_map.mp ha
    obtain ⟨w, hw⟩ := mem_valV hp
    rw [ep, z, e] at hw
    cases hw
  | some w =>
    have a : (kvs.any fun kv => decide (kv.1 = k)) = true := by rw [valV_any, e]; rfl
    unfold putK
    rw [if_pos a, List.map_map]
    have : (Prod.fst ∘ fun kv : List Key × V => if kv.1 = k then (kv.1, v) else kv) = Prod.fst := by
      funext kv
      show (if kv.1 = k then (kv.1, v) else kv).1 = kv.1
      split <;> rfl
    rw [this]; exact h
/-- a dict of what is left and what is made -/
structure GoodK (cs os : List Pc) (i : Nat) (tg : Prop) (l : List Int) (y : Int) (kvs : List (List Key × V)) : Prop where
  snd : ∀ p ∈ kvs, ∃ l x, p = (ek l, V.int x) ∧ Snd cs os i l x
  tgt : tg → ∃ x, valV kvs (ek l) = some (.int x) ∧ y ≤ x
  nod : (kvs.map Prod.fst).Nodup
theorem sg_const (c : Int) : ∀ n : Nat, sg (fun _ => c) n = c * n
  | 0 => by show (0 : Int) = c * 0; rw [Int.mul_zero]
  | n + 1 => by
    show sg (fun _ => c) n + c = c * ((n + 1 : Nat) : Int)
    rw [sg_const c n, Int.natCast_add, Int.mul_add]; omega
theorem GoodK.few {cs os : List Pc} {i : Nat} {tg : Prop} {l : List Int} {y : Int} {kvs : List (List Key × V)} (G : GoodK cs os i tg l y kvs) (h3 : ∀ p ∈ cs, p.2 ≤ 3) (h4 : cs.length ≤ 4) : kvs.length ≤ 256 := by
  have sub : ∀ k ∈ kvs.map Prod.fst, k ∈ (splF (List.replicate cs.length 3) (3 * (cs.length : Int))).map ek := fun k hk => by
    obtain ⟨p, hp, rfl⟩ := List.mem_map.mp hk
    obtain ⟨l, x, rfl, S⟩ := G.snd p hp
    have bx : ∀ k, k < cs.length → 0 ≤ l.getD k 0 ∧ l.getD k 0 ≤ 3 := fun k hk => by
      have := S.box k hk
      have h := pcs_getD h3 hk
      have h : (cs.getD k pc0).2 ≤ 3 := h
      omega
    refine List.mem_map_of_mem ((mem_splF (by omega) (fun x hx => by rw [List.eq_of_mem_replicate hx]; decide)).mpr ⟨⟨by rw [List.length_replicate, S.len], fun k hk => ?_⟩, ?_⟩)
    · rw [List.length_replicate] at hk
      rw [List.getD_eq_getElem?_getD (l := List.replicate cs.length (3 : Int)), List.getElem?_replicate, if_pos hk]
      exact bx k hk
    · rw [sum_sg, S.len, ← sg_const]
      exact sg_le fun k hk => (bx k hk).2
  have := nd_len G.nod sub
  rw [List.length_map, List.length_map] at this
  refine Nat.le_trans this (Nat.le_trans (splF_len fun t ht => by rw [List.eq_of_mem_replicate ht]; decide) ?_)
  rw [List.length_replicate]
  exact Nat.le_trans (Nat.pow_le_pow_right (by decide) h4) (by decide)
theorem GoodK.put {cs os : List Pc} {i : Nat} {tg tg2 : Prop} {l l2 : List Int} {y x2 : Int} {kvs : List (List Key × V)} (G : GoodK cs os i tg l y kvs) (S : Snd cs os i l2 x2) (up : ∀ x, valV kvs (ek l2) = some (.int x) → x ≤ x2) (h : tg2 → tg ∨ (l2 = l ∧ y ≤ x2)) : GoodK cs os i tg2 l y (putK kvs (ek l2) (.int x2)) := by
  refine ⟨fun p hp => ?_, fun t => ?_, keys_putK G.nod⟩
  · rcases mem_putK hp with rfl | hp
    · exact ⟨l2, x2, rfl, S⟩
    · exact G.snd p hp
  · rw [valV_put]
    by_cases e : ek l = ek l2
    · rw [if_pos e]
      refine ⟨x2, rfl, ?_⟩
      rcases h t with t | ⟨_, t⟩
      · obtain ⟨x, hx, hy⟩ := G.tgt t
        rw [e] at hx
        have := up x hx
        omega
      · exact t
    · rw [if_neg e]
      rcases h t with t | ⟨z, _⟩
      · exact G.tgt t
      · exact absurd (by rw [z]) e
theorem GoodK.get {cs os : List Pc} {i : Nat} {tg : Prop} {l : List Int} {y : Int} {kvs : List (List Key × V)} (G : GoodK cs os i tg l y kvs) {l2 : List Int} {v : V} (h : valV kvs (ek l2) = some v) : ∃ x, v = .int x ∧ Snd cs os i l2 x := by
  obtain ⟨l3, x, e, S⟩ := G.snd _ (valV_mem h)
  obtain rfl := ek_inj (Prod.mk.inj e).1
  exact ⟨x, (Prod.mk.inj e).2, S⟩
theorem GoodK.imp {cs os : List Pc} {i : Nat} {tg tg2 : Prop} {l : List Int} {y : Int} {kvs : List (List Key × V)} (G : GoodK cs os i tg l y kvs) (h : tg2 → tg) : GoodK cs os i tg2 l y kvs := ⟨G.snd, fun t => G.tgt (h t), G.nod⟩
def SmallP (n : Nat) (ps : List Pc) : Prop := ps.length ≤ n ∧ ∀ p ∈ ps, PcOk p ∧ p.2 ≤ 3
theorem ints_of {Pp : Int → Prop} : ∀ {kvs : List (List Key × V)}, (∀ p ∈ kvs, ∃ l x, p = (ek l, V.int x) ∧ Pp x) → ∃ ns : List Int, kvs.map Prod.snd = ns.map V.int ∧ ∀ n ∈ ns, Pp n
  | [], _ => ⟨[], rfl, fun _ h => (List.not_mem_nil h).elim⟩
  | p :: r, h => by
    obtain ⟨l, x, rfl, hx⟩ := h p List.mem_cons_self
    obtain ⟨ns, e, hn⟩ := ints_of fun q hq => h q (List.mem_cons_of_mem _ hq)
    refine ⟨x :: ns, by rw [List.map_cons, List.map_cons, e], fun n hn2 => ?_⟩
    rcases List.mem_cons.mp hn2 with rfl | hn2
    · exact hx
    · exact hn n hn2
theorem same_sm1 {H H1 H2 : Hp} {N : Addr} (s : Same H H1) (t : Sm [N] H1 H2) (n : H N = none) : Same H H2 := fun x o e => sm_at t (by simp [show x ≠ N from fun z => by rw [z, n] at e; cases e]) (s x o e)
theorem at_sm1 {H H2 : Hp} {N a : Addr} {o u : HO} (t : Sm [N] H H2) (hN : H N = some u) (h : H a = some o) (ne : o ≠ u) : H2 a = some o := sm_at t (by simp [show a ≠ N from fun z => ne (by rw [z, hN] at h; exact (Option.some.inj h).symm)]) h
theorem sqT_sm1 {H H2 : Hp} {N a : Addr} {kvs : List (List Key × V)} {xs : List V} (t : Sm [N] H H2) (hN : H N = some (.dT kvs)) (h : SqT K H a xs) : SqT K H2 a xs := by
  rcases h with (h | ⟨o, h⟩) | h
  · exact .inl (.inl (at_sm1 t hN h (fun z => by cases z)))
  · exact .inl (.inr ⟨o, at_sm1 t hN h (fun z => by cases z)⟩)
  · exact .inr h
abbrev s__law_most : Stmt := topS 18
def n__law_most : List Str := ["_law_crews", "_law_orders_here", "_law_rank", "_law_best", "_law_many", "_law_now", "_law_left", "_law_tops", "_law_split", "_law_rest", "_law_pieces", "_law_crew", "_law_some", "_law_one"]
theorem sc__law_most : FnScope n__law_most ["_law_crews", "_law_orders_here"] (defScope s__law_most) := ⟨rfl, rfl, rfl, by decide +kernel, rfl, by decide +kernel, by decide +kernel⟩
def spMostW (K : PySem.W.Frag) : Sp := fun vs H Q _ => ∃ (c o : Addr) (xs ys : List V) (cs os : List Pc) (rs : List Rw), vs = [.ref c, .ref o] ∧ SqL K H c xs ∧ SqL K H o ys ∧ DpAll K H xs (cs.map pcD) ∧ DpAll K H ys (os.map pcD) ∧ SmallP 4 cs ∧ SmallP 5 os ∧ RowsOk cs os rs ∧ (∀ l x, Snd cs os os.length l x → x ≤ sumR rs) ∧ ∀ H', Same H H' → Q (.int (sumR rs)) H'
set_option maxHeartbeats 4000000 in
theorem ok_most {f : Addr} {fd : FuncData} {k : Nat} (F : Fun K "_law_most" "_law_most" s__law_most f fd) (T : Txt mg) (c__law_splits : Cl P w K mg base (k + 6) "_law_splits" (spSpl K 5)) : FnOk P w K mg base CX0 (k + 7) f fd ["_law_crews", "_law_orders_here"] (spMostW K) := by
  refine F.ok sc__law_most (fun vs H Q E h => ?_) (fun cdv A outer s H vs Q E hr h => ?_)
  · obtain ⟨c, o, xs, ys, cs, os, rs, rfl, _⟩ := h
    rfl
  · obtain ⟨c, o, xs, ys, cs, os, rs, rfl, hC, hO, dc, dO, sc, so, R, top, q⟩ := h
    have nd := sc__law_most.nd
    have hu : (A.deeper (envOfC (Str.ofString "_law_most") (defScope s__law_most) s.heap.objs.size f cdv)).units + 1 < cLine := by have := hr.units; omega
    /- 0 _law_crews, 1 _law_orders_here, 2 _law_rank, 3 _law_best, 4 _law_many, 5 _law_now, 6 _law_left, 7 _law_tops, 8 _law_split, 9 _law_rest, 10 _law_pieces, 11 _law_crew, 12 _law_some, 13 _law_one -/
    refine ⟨_, (pss_cons (ps_set (i := 3) nd rfl (.inl rfl) (pe_dispT hu (pe_callTy (kc_tuple (K := K)) (by rfl) T.tuple (by decide +kernel) (pa_cons (pe_lc (own := [("_law_rank", 2), ("_law_pieces", 10)]) rfl nd (ki_list (K := K) (pv 0)) (blkOk_by (N := n__law_most) (sc := defScope s__law_most) (by decide +kernel)) (fun _ _ _ _ _ => (kg_tup (K := K) (n := 2) (pgs_cons (pg_name (i := 2) nd rfl (.inl rfl)) (pgs_cons (pg_name (i := 10) nd rfl (.inl rfl)) pgs_nil)))) (fun _ _ _ _ _ => pts_nil) (fun _ _ _ _ _ => (pv 10))) pa_nil)) pe_int))
      (pss_cons (ps_for PassesOwn.never rfl (ki_list (K := K) (pv 1)) (kg_tup (K := K) (n := 2) (pgs_cons (pg_name (i := 2) nd rfl (.inr rfl)) (pgs_cons (pg_name (i := 4) nd rfl (.inl rfl)) pgs_nil)))
          (pss_cons (ps_set (i := 5) nd rfl (.inl rfl) pe_dnewT)
          (pss_cons (ps_lock (ps_for PassesOwn.never rfl (pi_keys (pv 3)) (pg_name (i := 6) nd rfl (.inl rfl))
              (pss_cons (ps_setLc (i := 7) (own := [("_law_crew", 11), ("_law_some", 12)]) rfl nd rfl rfl (sw_true rfl rfl rfl (by decide +kernel)) (ki_zipM (K := K) (by rfl) T.zip (pa_cons (pv 0) (pa_cons (pv 6) pa_nil))) (blkOk_by (N := n__law_most) (sc := defScope s__law_most) (by decide +kernel)) (fun _ _ _ _ _ => (kg_tup (K := K) (n := 2) (pgs_cons (pg_name (i := 11) nd rfl (.inl rfl)) (pgs_cons (pg_name (i := 12) nd rfl (.inl rfl)) pgs_nil)))) (fun _ _ _ _ _ => pts_nil) (fun _ _ _ _ _ => (pe_op op_mul (pe_callTy call_int1 (by rfl) T.int (by decide +kernel) (pa_cons (pe_cmpR op_ge (pe_ix (kx_tup (K := K)) (pv 11) pe_int (fun _ _ => rfl)) (pv 2) (nomark _)) pa_nil)) (pv 12))))
              (pss_one (ps_for PassesOwn.never rfl (ki_list (K := K) (pe_cl c__law_splits hr (by omega) (by rfl) (pa_cons (pv 4) (pa_cons (pv 7) pa_nil)))) (pg_name (i := 8) nd rfl (.inl rfl))
                  (pss_cons (ps_set (i := 9) nd rfl (.inl rfl) (pe_callTy (kc_tuple (K := K)) (by rfl) T.tuple (by decide +kernel) (pa_cons (pe_lc (own := [("_law_some", 12), ("_law_one", 13)]) rfl nd (ki_zip (K := K) (by rfl) T.zip (pa_cons (pv 6) (pa_cons (pv 8) pa_nil))) (blkOk_by (N := n__law_most) (sc := defScope s__law_most) (by decide +kernel)) (fun _ _ _ _ _ => (kg_tup (K := K) (n := 2) (pgs_cons (pg_name (i := 12) nd rfl (.inl rfl)) (pgs_cons (pg_name (i := 13) nd rfl (.inl rfl)) pgs_nil)))) (fun _ _ _ _ _ => pts_nil) (fun _ _ _ _ _ => (pe_op op_sub (pv 12) (pv 13)))) pa_nil)))
                  (pss_one (ps_dput hu (pv 5) (pv 9) (pe_callB (call_max2 rfl) (by rfl) T.max (by decide +kernel) (pa_cons (pe_dget2 hu (pv 5) (pv 9) pe_int ⟨rfl, rfl, rfl, rfl⟩) (pa_cons (pe_op op_add (pe_dget hu (pv 3) (pv 6) (fun _ _ => rfl)) (pe_callB (kc_sumT (K := K)) (by rfl) T.sum (by decide +kernel) (pa_cons (pv 8) pa_nil))) pa_nil))) rfl))))))))
          (pss_one (ps_set (i := 3) nd rfl (.inl rfl) (pv 5))))))
      (pss_one (ps_ret (pe_callB (cr_maxT rfl) (by rfl) T.max (by decide +kernel) (pa_cons (pe_bm0 PySem.F.plainAttrs_dict PySem.F.slot_dict_values PySem.F.type_dict_values mt_valuesT (pv 3)) pa_nil)))))), ?_⟩
    have lx : xs.length = cs.length := dpAll_map_len dc
    have ly : ys.length = os.length := dpAll_map_len dO
    have kc : ∀ p ∈ cs, PcOk p := fun p hp => (sc.2 p hp).1
    have ko : ∀ p ∈ os, PcOk p := fun p hp => (so.2 p hp).1
    have lc3 := sc.1
    have lo3 := so.1
    refine fun B nB => ?_
    have s1 := same_upd (o := .dT []) nB
    have fB : upd H B (.dT []) B = some (.dT []) := upd_same
    generalize upd H B (.dT []) = H1 at s1 fB ⊢
    refine ⟨_, rfl, c, rfl, ⟨_, s1.seq hC⟩, fun D nD => ?_⟩
    refine lc_it (walk_list (xs := xs)) (PvL H1 D fun i => ((cs.take i).map (·.2)).map V.int) (pv_start nD rfl) (fun i H4 _ h => h.1.seq (s1.seq hC)) ?_ ?_
    · rintro i y H4 H5 hi p ⟨rfl, gx⟩
      obtain ⟨b, rfl, hb, hi2, _⟩ := pcs_at (dpAll_same (s1.trans p.1) dc) gx
      have gp : cs[i]? = some (cs.getD i pc0) := by rw [List.getD_eq_getElem?_getD, List.getElem?_eq_getElem hi2]; rfl
      generalize cs.getD i pc0 = pr at hb gp
      refine ⟨b, _, rfl, hb, rfl, _, _, rfl, _, _, rfl, rfl, rfl, tYes_at ?_⟩
      rw [if_pos rfl]
      refine ⟨_, rfl, pv_put nD p (Same.refl _) (by rw [List.take_add_one, gp, List.map_append, List.map_append]; rfl) ?_⟩
      rw [List.length_map, List.length_map, List.length_take, sizeLine_eq]; omega
    intro H2 p
    obtain ⟨s2, hD⟩ := pv_end p (show _ = (cs.map (·.2)).map V.int by rw [lx, List.take_length])
    clear p
    refine ⟨D, _, rfl, .inl ⟨SqL.of hD, fun t nt => ?_⟩⟩
    have s3 := s2.trans (same_upd (o := .tup ((cs.map (·.2)).map V.int)) nt)
    have ft : upd H2 t (.tup ((cs.map (·.2)).map V.int)) t = some (.tup ((cs.map (·.2)).map V.int)) := upd_same
    generalize upd H2 t (.tup ((cs.map (·.2)).map V.int)) = H3 at s3 ft ⊢
    have fB3 := s3 _ _ fB
    refine ⟨t, ek (cs.map (·.2)), rfl, (by rw [ek_kV]; exact ft), fB3, ?_⟩
    have sH := same_put (s1.trans s3) nB (o := .dT [(ek (cs.map (·.2)), .int 0)])
    have fB : upd H3 B (.dT [(ek (cs.map (·.2)), .int 0)]) B = some (.dT [(ek (cs.map (·.2)), .int 0)]) := upd_same
    generalize upd H3 B (.dT [(ek (cs.map (·.2)), .int 0)]) = H4 at sH fB ⊢
    clear s1 s2 s3 hD ft fB3 nt nD
    simp only [gName, List.set]
    refine ⟨_, rfl, o, rfl, ⟨_, sH.seq hO⟩, ?_⟩
    refine for_it (walk_list (xs := ys)) (fun i σ Hx => ∃ (B : Addr) (kvs : List (List Key × V)) (v2 v4 v5 v6 v7 v8 v9 va vb vc vd : Option V), σ = [some (.ref c), some (.ref o), v2, some (.ref B), v4, v5, v6, v7, v8, v9, va, vb, vc, vd] ∧ Same H Hx ∧ H B = none ∧ Hx B = some (.dT kvs) ∧ GoodK cs os i True (leftF cs rs i) (doneF cs rs i) kvs) ⟨B, _, none, none, none, none, none, none, none, none, none, none, none, rfl, sH, nB, fB, ?_⟩ (fun i σ Hx _ h => by obtain ⟨_, _, _, _, _, _, _, _, _, _, _, _, _, _, sz, _⟩ := h; exact sz.seq hO) ?_ ?_
    · rw [left_start]
      refine ⟨fun p hp => ⟨_, _, List.mem_singleton.mp hp, snd_start kc⟩, fun _ => ⟨0, valV_pos rfl, Int.le_refl 0⟩, List.nodup_cons.mpr ⟨List.not_mem_nil, List.nodup_nil⟩⟩
    · rintro i y σ Hx Hy hi ⟨B, kvs, v2, v4, v5, v6, v7, v8, v9, va, vb, vc, vd, rfl, sx, nB, fB, G⟩ ⟨rfl, gy⟩
      obtain ⟨b, rfl, hb, hi2, _⟩ := pcs_at (dpAll_same sx dO) gy
      have hoi := pcs_getD (p := fun p => PcOk p ∧ p.2 ≤ 3) so.2 hi2
      have step := fun {l s : List Int} {x : Int} (S : Snd cs os i l x) => snd_step (s := s) S ko hi2
      have tf := take_fits R kc hi2
      have ed : doneF cs rs (i + 1) = doneF cs rs i + (takeF cs rs i).sum := rfl
      generalize os.getD i pc0 = pr at hb hoi step tf
      obtain ⟨rk, m⟩ := pr
      refine ⟨b, _, rfl, hb, rfl, _, _, rfl, _, _, rfl, rfl, ?_⟩
      simp only [gName, List.set]
      refine fun N nN => ?_
      have sN := same_upd (o := .dT []) nN
      have fN : upd Hy N (.dT []) N = some (.dT []) := upd_same
      have NB : N ≠ B := fun e => by rw [e, fB] at nN; cases nN
      have nN0 := same_free sx nN
      have sx := sx.trans sN
      have fB := sN _ _ fB
      generalize upd Hy N (.dT []) = H5 at sx fN fB ⊢
      clear sN
      simp only [gName, List.set]
      refine ⟨B, _, fB, trivial, fun od => ?_⟩
      have sx6 := same_put (o := .frz od (.dT kvs)) sx nB
      have fB6 : upd H5 B (.frz od (.dT kvs)) B = some (.frz od (.dT kvs)) := upd_same
      have fN6 : upd H5 B (.frz od (.dT kvs)) N = some (.dT []) := by rw [upd_ne NB]; exact fN
      generalize upd H5 B (.frz od (.dT kvs)) = H6 at sx6 fB6 fN6 ⊢
      clear sx fN fB
      refine ⟨_, rfl, B, od, rfl, .inr ⟨kvs, fB6, ?_⟩⟩
      refine for_it (walk_keysT (kvs := kvs)) (fun a σ Hz => ∃ (nvs : List (List Key × V)) (v6 v7 v8 v9 va vb vc vd : Option V), σ = [some (.ref c), some (.ref o), some (.int rk), some (.ref B), some (.int m), some (.ref N), v6, v7, v8, v9, va, vb, vc, vd] ∧ Same H Hz ∧ Hz B = some (.frz od (.dT kvs)) ∧ Hz N = some (.dT nvs) ∧ GoodK cs os (i + 1) (∃ a2, a2 < a ∧ ∃ p, kvs[a2]? = some p ∧ p.1 = ek (leftF cs rs i)) (leftF cs rs (i + 1)) (doneF cs rs (i + 1)) nvs) ⟨[], v6, v7, v8, v9, va, vb, vc, vd, rfl, sx6, fB6, fN6, fun p hp => (List.not_mem_nil hp).elim, fun ⟨a2, h, _⟩ => absurd h (Nat.not_lt_zero _), List.nodup_nil⟩ (fun a σ Hz _ h => by obtain ⟨_, _, _, _, _, _, _, _, _, _, _, h, _⟩ := h; exact h) ?_ ?_
      · rintro a y σ Hz Hw ha ⟨nvs, v6, v7, v8, v9, va, vb, vc, vd, rfl, sz, hB, hN, GN⟩ ⟨rfl, key, v, q2, gk, rfl, hq⟩
        obtain ⟨l, x0, ekv, S0⟩ := G.snd _ (List.mem_of_getElem? gk)
        obtain ⟨rfl, rfl⟩ := Prod.mk.inj ekv
        rw [ek_kV] at hq
        obtain ⟨v1, hv1⟩ := mem_valV (List.mem_of_getElem? gk)
        have hv1 : valV kvs (ek l) = some v1 := hv1
        obtain ⟨x1, rfl, S1⟩ := G.get hv1
        simp only [gName, List.set]
        refine ⟨_, rfl, _, rfl, c, q2, xs, l.map V.int, rfl, sz.seq hC, .inl (.inl hq), fun D nD => ?_⟩
        have lt := S0.len
        refine lc_it (walk_zM (xs := xs) (ys := l.map V.int) (by rw [List.length_map, lt, lx])) (PvL Hw D fun j => ((topsF cs rk l).take j).map V.int) (pv_start nD rfl) (fun j H4 _ h => ⟨(sz.trans h.1).seq hC, .inl (.inl (h.1 _ _ hq))⟩) ?_ ?_
        · rintro j y Ha Hb hj pz ⟨u, x2, y2, rfl, nu, rfl, gx, gy⟩
          replace gx : xs[j]? = some x2 := gx
          replace gy : (l.map V.int)[j]? = some y2 := gy
          obtain ⟨b2, rfl, hb2, hj2, _⟩ := pcs_at (dpAll_same (sz.trans pz.1) dc) gx
          rw [List.getElem?_map] at gy
          obtain ⟨lj, glj, rfl⟩ := Option.map_eq_some_iff.mp gy
          have su := same_upd (o := .tup [.ref b2, .int lj]) nu
          have hb2 := same_tup su hb2
          have fu : upd Ha u (.tup [.ref b2, .int lj]) u = some (.tup [.ref b2, .int lj]) := upd_same
          have pz : PvL Hw D (fun j => ((topsF cs rk l).take j).map V.int) j (upd Ha u (.tup [.ref b2, .int lj])) := ⟨pz.1.trans su, su _ _ pz.2⟩
          generalize upd Ha u (.tup [.ref b2, .int lj]) = Hc at hb2 fu pz ⊢
          refine ⟨u, _, rfl, .inl (.inl fu), rfl, _, _, rfl, _, _, rfl, rfl, rfl, tYes_at ?_⟩
          rw [if_pos rfl]
          have gt : (topsF cs rk l)[j]? = some ((if rk ≤ (cs.getD j pc0).1 then 1 else 0) * lj) := by
            unfold topsF
            rw [List.getElem?_map, List.getElem?_range hj2]
            show some ((if rk ≤ (cs.getD j pc0).1 then 1 else 0) * l.getD j 0) = _
            rw [show l.getD j 0 = lj by rw [List.getD_eq_getElem?_getD, glj]; rfl]
          have bl := S0.box j hj2
          rw [List.getD_eq_getElem?_getD (l := l), glj] at bl
          have bl : 0 ≤ lj ∧ lj ≤ (cs.getD j pc0).2 := bl
          have hcj := (pcs_getD (p := fun p => PcOk p ∧ p.2 ≤ 3) sc.2 hj2).2
          refine ⟨_, rfl, b2, _, 0, _, rfl, rfl, hb2, rfl, _, rfl, _, _, rfl, rfl, .inr ⟨_, rfl, _, rfl, _, _, rfl, rfl, ?_, ?_⟩⟩
          · exact .inl (by cases decide (rk ≤ (cs.getD j pc0).1) <;> decide)
          · refine pv_put nD pz (Same.refl _) ?_ ?_
            · rw [List.take_add_one, gt, List.map_append]
              show _ ++ [V.int ((if rk ≤ (cs.getD j pc0).1 then 1 else 0) * lj)] = _ ++ [V.int ((if decide (rk ≤ (cs.getD j pc0).1) = true then 1 else 0) * lj)]
              by_cases z : rk ≤ (cs.getD j pc0).1
              · rw [decide_eq_true z, if_pos z, if_pos rfl]
              · rw [decide_eq_false z, if_neg z, if_neg (by decide)]
            · rw [List.length_map, List.length_take, sizeLine_eq]; omega
        intro H7 pz
        have ltp : (topsF cs rk l).length = cs.length := by unfold topsF; rw [List.length_map, List.length_range]
        obtain ⟨s7, hD⟩ := pv_end pz (show _ = (topsF cs rk l).map V.int by rw [List.take_of_length_le (by omega)])
        clear pz
        have sz := sz.trans s7
        have hB := s7 _ _ hB
        have hN := s7 _ _ hN
        have hq := s7 _ _ hq
        simp only [gName, List.set]
        have tb : ∀ x ∈ topsF cs rk l, 0 ≤ x ∧ x ≤ 3 := fun x hx => by
          unfold topsF at hx
          obtain ⟨j, hj, rfl⟩ := List.mem_map.mp hx
          have hj := List.mem_range.mp hj
          have := S0.box j hj
          have := (pcs_getD (p := fun p => PcOk p ∧ p.2 ≤ 3) sc.2 hj).2
          split <;> omega
        refine ⟨_, rfl, _, rfl, m, D, topsF cs rk l, rfl, SqL.of hD, by omega, by omega, hoi.1.2.2.1, hoi.2, tb, fun H8 Z zs s8 nZ hZ dz => ⟨Z, rfl, ⟨_, SqL.of hZ⟩, ?_⟩⟩
        have sz := sz.trans s8
        have hB := s8 _ _ hB
        have hN := s8 _ _ hN
        have hq := s8 _ _ hq
        clear s7 s8 hD nD
        have zl : zs.length = (splF (topsF cs rk l) m).length := dpAll_map_len dz
        have mem := fun {s : List Int} => mem_splF (s := s) hoi.1.2.2.1 (fun x hx => (tb x hx).1)
        have memi : l = leftF cs rs i → takeF cs rs i ∈ splF (topsF cs rk l) m := fun e => by rw [e]; rw [e] at mem; exact mem.mpr tf
        generalize splF (topsF cs rk l) m = sp at dz zl mem memi
        have low1 : l = leftF cs rs i → doneF cs rs i ≤ x1 := fun e => by
          obtain ⟨x, hx, hy⟩ := G.tgt trivial
          rw [← e, hv1] at hx
          have := V.int.inj (Option.some.inj hx)
          omega
        refine for_it (walk_list (xs := zs)) (fun b σ Hv => ∃ (nvs : List (List Key × V)) (v8 v9 va vb vc vd : Option V), σ = [some (.ref c), some (.ref o), some (.int rk), some (.ref B), some (.int m), some (.ref N), some (.ref q2), some (.ref D), v8, v9, va, vb, vc, vd] ∧ Sm [N] H8 Hv ∧ Hv N = some (.dT nvs) ∧ GoodK cs os (i + 1) ((∃ a2, a2 < a ∧ ∃ p, kvs[a2]? = some p ∧ p.1 = ek (leftF cs rs i)) ∨ (l = leftF cs rs i ∧ ∃ b2, b2 < b ∧ sp[b2]? = some (takeF cs rs i))) (leftF cs rs (i + 1)) (doneF cs rs (i + 1)) nvs) ⟨nvs, v8, v9, va, vb, vc, vd, rfl, Same.refl _, hN, GN.imp (fun t => t.elim id fun ⟨_, b2, h, _⟩ => absurd h (Nat.not_lt_zero _))⟩ (fun b σ Hv _ h => by obtain ⟨_, _, _, _, _, _, _, _, sv, _⟩ := h; exact SqL.of (at_sm1 sv hN hZ (fun z => by cases z))) ?_ ?_
        · clear GN
          rintro b y σ Hv Hu hb2 ⟨nvs2, v8, v9, va, vb, vc, vd, rfl, sv, hN2, GN⟩ ⟨rfl, gy⟩
          obtain ⟨q3, s, rfl, gs, hq3⟩ := tps_at dz gy
          have hq3 := sqT_sm1 sv hN hq3
          have hq2 := at_sm1 sv hN hq (fun z => by cases z)
          have hB2 := at_sm1 sv hN hB (fun z => by cases z)
          obtain ⟨sfit, ssum⟩ := mem.mp (List.mem_of_getElem? gs)
          have S2 := step S1 sfit ssum
          have lts := (tops_fit sfit).1
          have lle : (lessF l s).length = cs.length := by unfold lessF; rw [List.length_map, List.length_range, lt]
          simp only [gName, List.set]
          refine ⟨_, rfl, _, rfl, q2, q3, _, _, rfl, .inr ⟨.inl (.inl hq2), hq3, fun D2 nD2 => ?_⟩⟩
          refine lc_it (walk_zipT (xs := l.map V.int) (ys := s.map V.int) (n := cs.length) (by rw [List.length_map, List.length_map, lt, lts, Nat.min_self])) (PvL Hu D2 fun j => ((lessF l s).take j).map V.int) (pv_start nD2 rfl) (fun j H4 _ h => ⟨.inl (.inl (h.1 _ _ hq2)), same_tup h.1 hq3⟩) ?_ ?_
          · rintro j y Ha Hb hj pz ⟨u, x2, y2, rfl, nu, rfl, gx, gy⟩
            replace gx : (l.map V.int)[j]? = some x2 := gx
            replace gy : (s.map V.int)[j]? = some y2 := gy
            rw [List.getElem?_map] at gx gy
            obtain ⟨lj, glj, rfl⟩ := Option.map_eq_some_iff.mp gx
            obtain ⟨sj, gsj, rfl⟩ := Option.map_eq_some_iff.mp gy
            have su := same_upd (o := .tup [.int lj, .int sj]) nu
            have fu : upd Ha u (.tup [.int lj, .int sj]) u = some (.tup [.int lj, .int sj]) := upd_same
            have pz : PvL Hu D2 (fun j => ((lessF l s).take j).map V.int) j (upd Ha u (.tup [.int lj, .int sj])) := ⟨pz.1.trans su, su _ _ pz.2⟩
            generalize upd Ha u (.tup [.int lj, .int sj]) = Hc at fu pz ⊢
            refine ⟨u, _, rfl, .inl (.inl fu), rfl, _, _, rfl, _, _, rfl, rfl, rfl, tYes_at ?_⟩
            rw [if_pos rfl]
            refine ⟨_, rfl, _, rfl, _, _, rfl, rfl, pv_put nD2 pz (Same.refl _) ?_ ?_⟩
            · have gl : (lessF l s)[j]? = some (lj - sj) := by
                unfold lessF
                rw [List.getElem?_map, List.getElem?_range (by omega)]
                show some (l.getD j 0 - s.getD j 0) = _
                rw [show l.getD j 0 = lj by rw [List.getD_eq_getElem?_getD, glj]; rfl, show s.getD j 0 = sj by rw [List.getD_eq_getElem?_getD, gsj]; rfl]
              rw [List.take_add_one, gl, List.map_append]; rfl
            · rw [List.length_map, List.length_take, sizeLine_eq]; omega
          intro Hc pz
          obtain ⟨sD, hD2⟩ := pv_end pz (show _ = (lessF l s).map V.int by rw [List.take_of_length_le (by omega)])
          clear pz
          refine ⟨D2, _, rfl, .inl ⟨SqL.of hD2, fun t2 nt2 => ?_⟩⟩
          have sE := sD.trans (same_upd (o := .tup ((lessF l s).map V.int)) nt2)
          have ht2 : upd Hc t2 (.tup ((lessF l s).map V.int)) t2 = some (.tup ((ek (lessF l s)).map kV)) := by rw [ek_kV]; exact upd_same
          generalize upd Hc t2 (.tup ((lessF l s).map V.int)) = He at sE ht2 ⊢
          have hN3 := sE _ _ hN2
          have hB3 := sE _ _ hB2
          have hq2 := sE _ _ hq2
          have hq3 := same_tup sE hq3
          simp only [gName, List.set]
          refine ⟨_, rfl, N, rfl, .inr ⟨nvs2, .inl hN3⟩, _, rfl, valV nvs2 (ek (lessF l s)), DGet.t hN3 ht2, ?_⟩
          obtain ⟨g, eg, hg⟩ : ∃ g : Int, (valV nvs2 (ek (lessF l s))).getD (.int 0) = .int g ∧ ((∃ x, valV nvs2 (ek (lessF l s)) = some (.int x) ∧ g = x) ∨ (valV nvs2 (ek (lessF l s)) = none ∧ g = 0)) := by
            cases ev : valV nvs2 (ek (lessF l s)) with
            | none => exact ⟨0, rfl, .inr ⟨rfl, rfl⟩⟩
            | some v =>
              obtain ⟨x, rfl, _⟩ := GN.get ev
              exact ⟨x, rfl, .inl ⟨x, rfl, rfl⟩⟩
          rw [eg]
          refine ⟨_, rfl, _, rfl, B, .int x1, rfl, .inr ⟨kvs, ek l, q2, .inr ⟨od, hB3⟩, rfl, by rw [ek_kV]; exact hq2, hv1.symm⟩, ?_⟩
          refine ⟨_, rfl, q3, s, rfl, hq3, _, _, rfl, rfl, g, x1 + s.sum, rfl, _, rfl, _, rfl, N, _, rfl, DPut.t hN3 ht2 ?_, ?_⟩
          · have h1 := GN.few (fun p hp => (sc.2 p hp).2) lc3
            rw [sizeLine_eq]
            omega
          · refine ⟨_, _, _, _, _, _, _, rfl, (sv.trans (sm_of sE)).trans (sm_wr List.mem_cons_self), upd_same, ?_⟩
            have low := S2.low
            refine (GN.put (l2 := lessF l s) (x2 := if x1 + s.sum > g then x1 + s.sum else g) ?_ (fun x hx => ?_) (fun t => ?_))
            · split
              · exact S2
              · rcases hg with ⟨x, hx, rfl⟩ | ⟨_, rfl⟩
                · obtain ⟨x', e, Sg⟩ := GN.get hx
                  rw [V.int.inj e]; exact Sg
                · have : x1 + s.sum = 0 := by omega
                  rw [← this]; exact S2
            · rcases hg with ⟨x', hx', rfl⟩ | ⟨hx', _⟩
              · rw [hx'] at hx
                have := V.int.inj (Option.some.inj hx)
                split <;> omega
              · rw [hx'] at hx; cases hx
            · rcases t with t | ⟨e, b2, hb, gb⟩
              · exact .inl (.inl t)
              · by_cases z : b2 < b
                · exact .inl (.inr ⟨e, b2, z, gb⟩)
                · have : b2 = b := by omega
                  rw [this, gs] at gb
                  have es := Option.some.inj gb
                  refine .inr ⟨by rw [e, es, left_step], ?_⟩
                  have := low1 e
                  rw [ed, ← es]
                  split <;> omega
        · rintro σ Hv ⟨nvs2, v8, v9, va, vb, vc, vd, rfl, sv, hN2, GN2⟩
          refine ⟨nvs2, _, _, _, _, _, _, _, _, rfl, same_sm1 sz sv nN0, at_sm1 sv hN hB (fun z => by cases z), hN2, GN2.imp (fun ⟨a2, h, p, gp, ep⟩ => ?_)⟩
          by_cases z : a2 < a
          · exact .inl ⟨a2, z, p, gp, ep⟩
          · have : a2 = a := by omega
            rw [this, gk] at gp
            obtain rfl := Option.some.inj gp
            have el := ek_inj ep
            obtain ⟨b2, hb2, e2⟩ := List.mem_iff_getElem.mp (memi el)
            exact .inr ⟨el, b2, by omega, by rw [List.getElem?_eq_getElem hb2, e2]⟩
      · rintro σ Hz ⟨nvs, v6, v7, v8, v9, va, vb, vc, vd, rfl, sz, hB, hN, GN⟩
        have s8 := same_put (o := .dT kvs) sz nB
        have fN8 : upd Hz B (.dT kvs) N = some (.dT nvs) := by rw [upd_ne NB]; exact hN
        refine ⟨hB, _, rfl, N, nvs, _, _, _, _, _, _, _, _, _, _, _, rfl, s8, nN0, fN8, GN.imp (fun _ => ?_)⟩
        · obtain ⟨x, hx, _⟩ := G.tgt trivial
          obtain ⟨a2, ha2, e2⟩ := List.mem_iff_getElem.mp (valV_mem hx)
          exact ⟨a2, ha2, _, List.getElem?_eq_getElem ha2, by rw [e2]⟩
    · rintro σ Hx ⟨B, kvs, v2, v4, v5, v6, v7, v8, v9, va, vb, vc, vd, rfl, sx, nB, fB, G⟩
      rw [ly] at G
      refine ⟨_, rfl, .inr (.inr (.inl ⟨rfl, .inr ⟨kvs, fB⟩⟩)), B, kvs, rfl, rfl, fB, fun p np => ?_⟩
      have s9 := same_upd (o := viewO "dict_values" p B) np
      obtain ⟨ns, ens, hns⟩ := ints_of (Pp := fun x => ∃ l, Snd cs os os.length l x) (kvs := kvs) fun p hp => by
        obtain ⟨l, x, e, Sx⟩ := G.snd p hp
        exact ⟨l, x, e, l, Sx⟩
      obtain ⟨x, hx, hy⟩ := G.tgt trivial
      have xn : x ∈ ns := by
        have := List.mem_map_of_mem (f := Prod.snd) (valV_mem hx)
        rw [ens] at this
        obtain ⟨y, hy2, e⟩ := List.mem_map.mp this
        rw [← V.int.inj e]; exact hy2
      refine ⟨p, B, kvs, ns, rfl, upd_same, s9 _ _ fB, ens, List.length_pos_of_mem xn, fun mx hmx hge => ?_⟩
      have e : mx = sumR rs := by
        obtain ⟨l, Sm⟩ := hns mx hmx
        have h1 := top l mx Sm
        have h2 := hge x xn
        rw [done_all R] at hy
        omega
      rw [e]
      exact q _ (sx.trans s9)

end
end Pot



namespace Pot
open PySem PySem.Spec PyProof.Rows L2
section
variable {P : Program} {w : World} {K : PySem.W.Frag} {mg : Str → Option Value} {base : Heap}
abbrev Kd := Str × Int × Int
abbrev Wn := Str × Str × Int
def kdD (k : Kd) : PyData := .tuple [.str k.1, .int k.2.1, .int k.2.2]
def wnD (w : Wn) : PyData := .tuple [.str w.1, .str w.2.1, .int w.2.2]
def rkD (ks : List Kd) : List (Key × V) := ks.foldl (fun acc k => putK acc (.inr k.1) (.int k.2.1)) []
theorem rkD_one (ks : List Kd) {i : Nat} {k : Kd} (g : ks[i]? = some k) : rkD (ks.take (i + 1)) = putK (rkD (ks.take i)) (.inr k.1) (.int k.2.1) := by
  unfold rkD
  rw [List.take_add_one, g, Option.toList_some, List.foldl_append]; rfl
def rkI (ks : List Kd) (z : Str) : Int := match valV (rkD ks) (.inr z) with
  | some (.int r) => r
  | _ => 0
def dueF (ks : List Kd) (ws : List Wn) (z : Str) : List Pc := (ws.filter fun w => decide (w.2.1 = z)).map fun w => (rkI ks w.1, w.2.2)
theorem rk_all (ks : List Kd) (z : Str) : ∀ i, i ≤ ks.length → (∀ v, valV (rkD (ks.take i)) (.inr z) = some v → ∃ k ∈ ks, v = .int k.2.1) ∧ (z ∈ (ks.take i).map (·.1) → ∃ v, valV (rkD (ks.take i)) (.inr z) = some v)
  | 0, _ => ⟨(fun v h => by cases h), (fun h => by simp at h)⟩
  | i + 1, hi => by
    have g : ks[i]? = some ks[i] := List.getElem?_eq_getElem (by omega)
    obtain ⟨h1, h2⟩ := rk_all ks z i (by omega)
    rw [rkD_one ks g, valV_put]
    by_cases e : (Sum.inr z : Key) = .inr ks[i].1
    · rw [if_pos e]
      exact ⟨fun v h => ⟨ks[i], List.getElem_mem _, (Option.some.inj h).symm⟩, fun _ => ⟨_, rfl⟩⟩
    · rw [if_neg e]
      refine ⟨h1, fun h => ?_⟩
      rw [List.take_add_one, g, Option.toList_some, List.map_append] at h
      rcases List.mem_append.mp h with h | h
      · exact h2 h
      · exact absurd (congrArg Sum.inr (List.mem_singleton.mp h)) e
theorem rk_some {ks : List Kd} {z : Str} (h : z ∈ ks.map (·.1)) : valV (rkD ks) (.inr z) = some (.int (rkI ks z)) ∧ ∃ k ∈ ks, rkI ks z = k.2.1 := by
  obtain ⟨h1, h2⟩ := rk_all ks z ks.length (Nat.le_refl _)
  rw [List.take_length] at h1 h2
  obtain ⟨v, hv⟩ := h2 h
  obtain ⟨k, hk, rfl⟩ := h1 v hv
  have e : rkI ks z = k.2.1 := by unfold rkI; rw [hv]
  exact ⟨by rw [hv, e], k, hk, e⟩
theorem rkD_len (ks : List Kd) : ∀ i, i ≤ ks.length → (rkD (ks.take i)).length ≤ i
  | 0, _ => Nat.le_refl _
  | i + 1, hi => by
    have g : ks[i]? = some ks[i] := List.getElem?_eq_getElem (by omega)
    rw [rkD_one ks g]
    have := length_putK (rkD (ks.take i)) (.inr ks[i].1) (.int ks[i].2.1)
    have := rkD_len ks i (by omega)
    omega
theorem due_one {ks : List Kd} {ws : List Wn} {z : Str} {i : Nat} {w : Wn} (g : ws[i]? = some w) : dueF ks (ws.take (i + 1)) z = dueF ks (ws.take i) z ++ if w.2.1 = z then [(rkI ks w.1, w.2.2)] else [] := by
  unfold dueF
  rw [List.take_add_one, g, Option.toList_some, List.filter_append, List.map_append]
  by_cases h : w.2.1 = z
  · rw [if_pos h, List.filter_cons_of_pos (p := fun w : Wn => decide (w.2.1 = z)) (decide_eq_true h)]; rfl
  · rw [if_neg h, List.filter_cons_of_neg (p := fun w : Wn => decide (w.2.1 = z)) (by simpa using h)]; rfl
theorem due_len (ks : List Kd) (ws : List Wn) (z : Str) : (dueF ks ws z).length ≤ ws.length := by
  unfold dueF
  rw [List.length_map]
  exact List.length_filter_le _ _
theorem kd_at {H : Hp} {xs : List V} {ks : List Kd} (h : DpAll K H xs (ks.map kdD)) {i : Nat} {v : V} (g : xs[i]? = some v) : ∃ (a : Addr) (k : Kd), v = .ref a ∧ SqT K H a [.str k.1, .int k.2.1, .int k.2.2] ∧ ks[i]? = some k := by
  obtain ⟨r, gr, dr⟩ := dpAll_map_at h g
  obtain ⟨a, ts, rfl, ht, dts⟩ := dp_tup dr
  obtain ⟨x, y, z, rfl, d1, d2, d3⟩ := dp_three dts
  rw [dp_str d1, dp_int d2, dp_int d3] at ht
  exact ⟨a, r, rfl, ht, gr⟩
theorem wn_at {H : Hp} {xs : List V} {ks : List Wn} (h : DpAll K H xs (ks.map wnD)) {i : Nat} {v : V} (g : xs[i]? = some v) : ∃ (a : Addr) (k : Wn), v = .ref a ∧ SqT K H a [.str k.1, .str k.2.1, .int k.2.2] ∧ ks[i]? = some k := by
  obtain ⟨r, gr, dr⟩ := dpAll_map_at h g
  obtain ⟨a, ts, rfl, ht, dts⟩ := dp_tup dr
  obtain ⟨x, y, z, rfl, d1, d2, d3⟩ := dp_three dts
  rw [dp_str d1, dp_str d2, dp_int d3] at ht
  exact ⟨a, r, rfl, ht, gr⟩
theorem dget_rk {H : Hp} {D : Addr} {ks : List Kd} {z : Str} (h : H D = some (.dK (rkD ks))) (m : z ∈ ks.map (·.1)) : DGet H D (.str z) (some (.int (rkI ks z))) := .inl ⟨_, .inr z, .inl h, rfl, (rk_some m).1.symm⟩
abbrev s_wanted_of : Stmt := topS 13
def n_wanted_of : List Str := ["kinds", "wanted", "colour", "ranks", "kind", "rank", "cool", "own", "many"]
theorem sc_wanted_of : FnScope n_wanted_of ["kinds", "wanted", "colour"] (defScope s_wanted_of) := ⟨rfl, rfl, rfl, by decide +kernel, rfl, by decide +kernel, by decide +kernel⟩
def spWanted (K : PySem.W.Frag) : Sp := fun vs H Q _ => ∃ (a b : Addr) (z : Str) (ax bx : List V) (ks : List Kd) (ws : List Wn), vs = [.ref a, .ref b, .str z] ∧ SqT K H a ax ∧ SqL K H b bx ∧ DpAll K H ax (ks.map kdD) ∧ DpAll K H bx (ws.map wnD) ∧ ks.length ≤ 20 ∧ ws.length ≤ 20 ∧ (∀ w ∈ ws, w.1 ∈ ks.map (·.1)) ∧
  ∀ (H' : Hp) (L : Addr) (us : List V), Same H H' → H L = none → H' L = some (.lst us) → DpAll K H' us ((dueF ks ws z).map pcD) → us.length ≤ 20 → Q (.ref L) H'
theorem ok_wanted {f : Addr} {fd : FuncData} {k : Nat} (F : Fun K "wanted_of" "wanted_of" s_wanted_of f fd) (T : Txt mg) : FnOk P w K mg base CX0 (k + 1) f fd ["kinds", "wanted", "colour"] (spWanted K) := by
  refine F.ok sc_wanted_of (fun vs H Q E h => ?_) (fun cdv A outer s H vs Q E hr h => ?_)
  · obtain ⟨a, b, z, ax, bx, ks, ws, rfl, _⟩ := h
    rfl
  · obtain ⟨a, b, z, ax, bx, ks, ws, rfl, hA, hB, da, db, lk, lw, hw, q⟩ := h
    have nd := sc_wanted_of.nd
    have hu := hu_of hr
    have la : ax.length = ks.length := dpAll_map_len da
    have lb : bx.length = ws.length := dpAll_map_len db
    /- 0 kinds, 1 wanted, 2 colour, 3 ranks, 4 kind, 5 rank, 6 cool, 7 own, 8 many -/
    refine ⟨_, (pss_cons (ps_set (i := 3) nd rfl (.inr rfl) (pe_dc rfl (own := [("kind", 4), ("rank", 5), ("cool", 6)]) nd (ki_tup (K := K) (pv 0)) (blkOk_by (N := n_wanted_of) (sc := defScope s_wanted_of) (by decide +kernel)) (fun _ _ _ _ _ => (kg_tup (K := K) (n := 3) (pgs_cons (pg_name (i := 4) nd rfl (.inl rfl)) (pgs_cons (pg_name (i := 5) nd rfl (.inl rfl)) (pgs_cons (pg_name (i := 6) nd rfl (.inl rfl)) pgs_nil))))) (fun _ _ _ _ _ => pts_nil) (fun _ _ _ _ _ => (pv 4)) (fun _ _ _ _ _ => (pv 5))))
      (pss_one (ps_ret (pe_lc (own := [("kind", 4), ("own", 7), ("many", 8)]) rfl nd (ki_list (K := K) (pv 1)) (blkOk_by (N := n_wanted_of) (sc := defScope s_wanted_of) (by decide +kernel)) (fun _ _ _ _ _ => (kg_tup (K := K) (n := 3) (pgs_cons (pg_name (i := 4) nd rfl (.inl rfl)) (pgs_cons (pg_name (i := 7) nd rfl (.inl rfl)) (pgs_cons (pg_name (i := 8) nd rfl (.inl rfl)) pgs_nil))))) (fun _ _ _ _ _ => (pts_one (pt_cmpR op_eq (pv 7) (pv 2) (nomark _)))) (fun _ _ _ _ _ => (pe_tup (pa_cons (pe_dget hu (pv 3) (pv 4) (fun _ _ => rfl)) (pa_cons (pv 8) pa_nil)))))))), ?_⟩
    refine ⟨_, rfl, a, rfl, ⟨_, hA⟩, fun D nD => ?_⟩
    refine dc_tup (xs := ax) (fun i H5 => Same H H5 ∧ H5 D = some (.dK (rkD (ks.take i)))) ⟨same_upd nD, upd_same⟩ (fun i H5 _ h => sqT_nl (Nl.same h.1) hA) ?_ ?_
    · rintro i x H5 gx ⟨s5, hD⟩
      obtain ⟨t, r, rfl, ht, gr⟩ := kd_at (dpAll_same s5 da) gx
      refine ⟨t, _, rfl, ht, rfl, _, _, rfl, _, _, rfl, _, _, rfl, rfl, rfl, tYes_at ?_⟩
      rw [if_pos rfl]
      have hi : i < ks.length := (List.getElem?_eq_some_iff.mp gr).1
      refine ⟨_, rfl, _, rfl, _, .inr r.1, rfl, hD, (by have := rkD_len ks i (by omega); rw [sizeLine_eq]; omega), same_put s5 nD, ?_⟩
      rw [rkD_one ks gr]; exact upd_same
    rintro H5 ⟨s5, hD⟩
    rw [la, List.take_length] at hD
    refine ⟨_, rfl, b, rfl, ⟨_, s5.seq hB⟩, fun L nL => ?_⟩
    have nL0 := same_free s5 nL
    have hB5 := s5.seq hB
    have db5 := dpAll_same s5 db
    refine lc_it (walk_list (xs := bx)) (fun i H6 => Same H5 H6 ∧ ∃ us, H6 L = some (.lst us) ∧ DpAll K H6 us ((dueF ks (ws.take i) z).map pcD)) ⟨same_upd nL, [], upd_same, .nil⟩ (fun i H6 _ h => h.1.seq hB5) ?_ ?_
    · rintro i x H6 H7 hi ⟨s6, us, hL, du⟩ ⟨rfl, gx⟩
      obtain ⟨t, r, rfl, ht, gr⟩ := wn_at (dpAll_same s6 db5) gx
      have lus : us.length ≤ 20 := by
        rw [dpAll_map_len du]
        exact Nat.le_trans (due_len _ _ _) (by rw [List.length_take]; omega)
      refine ⟨t, _, rfl, ht, rfl, _, _, rfl, _, _, rfl, _, _, rfl, rfl, rfl, ?_⟩
      refine ⟨_, rfl, _, rfl, rfl, _, rfl, ite2 (fun h1 => ?_) (fun h1 => ?_)⟩
      · have h1 : r.2.1 = z := V.str.inj (of_decide_eq_true h1)
        refine ⟨_, rfl, _, rfl, D, _, rfl, dget_rk (s6 _ _ hD) (hw r (List.mem_of_getElem? gr)), _, rfl, (by show 2 ≤ sizeLine; decide), fun t2 nt2 => ?_⟩
        have su := same_upd (o := .tup [.int (rkI ks r.1), .int r.2.2]) nt2
        refine ⟨us, su _ _ hL, (by rw [sizeLine_eq]; omega), same_put (s6.trans su) nL, us ++ [.ref t2], upd_same, ?_⟩
        rw [due_one gr, if_pos h1, List.map_append]
        have nw := Nl.wr (o := .lst (us ++ [.ref t2])) (su _ _ hL)
        exact dpAll_app (pcs_nl nw (dpAll_same su du)) (.cons (.tup (sqT_nl nw (.inl (.inl upd_same))) (.cons (.int _) (.cons (.int _) .nil))) .nil)
      · have h1 : r.2.1 ≠ z := fun e => h1 (decide_eq_true (by rw [e]))
        refine ⟨s6, us, hL, ?_⟩
        rw [due_one gr, if_neg h1, List.append_nil]
        exact du
    · rintro H6 ⟨s6, us, hL, du⟩
      rw [lb, List.take_length] at du
      exact q _ L us (s5.trans s6) nL0 hL du (by rw [dpAll_map_len du]; exact Nat.le_trans (due_len _ _ _) lw)

theorem paired_imp {α β : Type} {F G : α → β → Prop} (h : ∀ a b, F a b → G a b) : ∀ {l : List α} {m : List β}, Paired F l m → Paired G l m
  | _, _, .nil => .nil
  | _, _, .cons f t => .cons (h _ _ f) (paired_imp h t)
theorem paired_snoc {α β : Type} {F : α → β → Prop} {a : α} {b : β} (f : F a b) : ∀ {l : List α} {m : List β}, Paired F l m → Paired F (l ++ [a]) (m ++ [b])
  | _, _, .nil => .cons f .nil
  | _, _, .cons g t => .cons g (paired_snoc f t)
def kvK (k : Kd) : Key × V := (.inr k.1, .int k.2.1)
theorem rkD_merge (ks : List Kd) : mergeK [] (ks.map kvK) = rkD ks := by
  have : ∀ (ks : List Kd) (acc : List (Key × V)), mergeK acc (ks.map kvK) = ks.foldl (fun acc k => putK acc (.inr k.1) (.int k.2.1)) acc := fun ks => by
    induction ks with
    | nil => exact fun _ => rfl
    | cons k ks ih => exact fun acc => ih _
  exact this ks []
def dueG (ks : List Kd) (ws : List Wn) (zs : List Str) : List Pc := (ws.filter fun w => decide (w.2.1 ∈ zs)).map fun w => (rkI ks w.1, w.2.2)
theorem dueG_one {ks : List Kd} {ws : List Wn} {zs : List Str} {i : Nat} {w : Wn} (g : ws[i]? = some w) : dueG ks (ws.take (i + 1)) zs = dueG ks (ws.take i) zs ++ if w.2.1 ∈ zs then [(rkI ks w.1, w.2.2)] else [] := by
  unfold dueG
  rw [List.take_add_one, g, Option.toList_some, List.filter_append, List.map_append]
  by_cases h : w.2.1 ∈ zs
  · rw [if_pos h, List.filter_cons_of_pos (p := fun w : Wn => decide (w.2.1 ∈ zs)) (decide_eq_true h)]; rfl
  · rw [if_neg h, List.filter_cons_of_neg (p := fun w : Wn => decide (w.2.1 ∈ zs)) (by simpa using h)]; rfl
theorem dueG_len (ks : List Kd) (ws : List Wn) (zs : List Str) : (dueG ks ws zs).length ≤ ws.length := by
  unfold dueG
  rw [List.length_map]
  exact List.length_filter_le _ _
theorem dueG_one' (ks : List Kd) (ws : List Wn) (z : Str) : dueG ks ws [z] = dueF ks ws z := by
  unfold dueG dueF
  congr 1
  exact List.filter_congr fun w _ => by rw [Bool.eq_iff_iff, decide_eq_true_eq, decide_eq_true_eq, List.mem_singleton]
theorem inV_strs (z : Str) : ∀ zs : List Str, inV (V.str z) (zs.map V.str) = decide (z ∈ zs)
  | [] => rfl
  | x :: zs => by
    have ih := inV_strs z zs
    unfold inV at ih ⊢
    rw [List.map_cons, List.any_cons, ih, Bool.eq_iff_iff, Bool.or_eq_true, decide_eq_true_eq, decide_eq_true_eq, List.mem_cons]
    refine or_congr ?_ Iff.rfl
    show decide (x = z) = true ↔ _
    rw [decide_eq_true_eq]; exact eq_comm
theorem flat_strs : ∀ zs : List Str, (zs.map V.str).all flatV = true
  | [] => rfl
  | _ :: zs => by rw [List.map_cons, List.all_cons, flat_strs zs]; rfl
abbrev s__law_orders : Stmt := topS 19
def n__law_orders : List Str := ["_law_kinds", "_law_wanted", "_law_colours", "_law_ranks", "_law_kind", "_law_colour", "_law_many", "_law_row"]
theorem sc__law_orders : FnScope n__law_orders ["_law_kinds", "_law_wanted", "_law_colours"] (defScope s__law_orders) := ⟨rfl, rfl, rfl, by decide +kernel, rfl, by decide +kernel, by decide +kernel⟩
def spOrders (K : PySem.W.Frag) : Sp := fun vs H Q _ => ∃ (a b c : Addr) (zs : List Str) (ax bx : List V) (ks : List Kd) (ws : List Wn), vs = [.ref a, .ref b, .ref c] ∧ SqL K H a ax ∧ SqL K H b bx ∧ SqL K H c (zs.map V.str) ∧ DpAll K H ax (ks.map kdD) ∧ DpAll K H bx (ws.map wnD) ∧ ks.length ≤ 20 ∧ ws.length ≤ 20 ∧ (∀ w ∈ ws, w.1 ∈ ks.map (·.1)) ∧
  ∀ (H' : Hp) (L : Addr) (us : List V), Same H H' → H L = none → H' L = some (.lst us) → DpAll K H' us ((dueG ks ws zs).map pcD) → Q (.ref L) H'
theorem ok_orders {f : Addr} {fd : FuncData} {k : Nat} (F : Fun K "_law_orders" "_law_orders" s__law_orders f fd) (T : Txt mg) (LD : Dct mg) : FnOk P w K mg base CX0 (k + 1) f fd ["_law_kinds", "_law_wanted", "_law_colours"] (spOrders K) := by
  refine F.ok sc__law_orders (fun vs H Q E h => ?_) (fun cdv A outer s H vs Q E hr h => ?_)
  · obtain ⟨a, b, c, zs, ax, bx, ks, ws, rfl, _⟩ := h
    rfl
  · obtain ⟨a, b, c, zs, ax, bx, ks, ws, rfl, hA, hB, hC, da, db, lk, lw, hw, q⟩ := h
    have nd := sc__law_orders.nd
    have hu := hu_of hr
    have la : ax.length = ks.length := dpAll_map_len da
    have lb : bx.length = ws.length := dpAll_map_len db
    /- 0 _law_kinds, 1 _law_wanted, 2 _law_colours, 3 _law_ranks, 4 _law_kind, 5 _law_colour, 6 _law_many, 7 _law_row -/
    refine ⟨_, (pss_cons (ps_set (i := 3) nd rfl (.inr rfl) (pe_callTy (kc_dictP (K := K)) (by rfl) LD (by decide +kernel) (pa_cons (pe_lc (own := [("_law_row", 7)]) rfl nd (ki_list (K := K) (pv 0)) (blkOk_by (N := n__law_orders) (sc := defScope s__law_orders) (by decide +kernel)) (fun _ _ _ _ _ => (pg_name (i := 7) nd rfl (.inl rfl))) (fun _ _ _ _ _ => pts_nil) (fun _ _ _ _ _ => (pe_slice (kl_tup (K := K)) (pv 7) po_none (po_some pe_int)))) pa_nil)))
      (pss_one (ps_ret (pe_lc (own := [("_law_kind", 4), ("_law_colour", 5), ("_law_many", 6)]) rfl nd (ki_list (K := K) (pv 1)) (blkOk_by (N := n__law_orders) (sc := defScope s__law_orders) (by decide +kernel)) (fun _ _ _ _ _ => (kg_tup (K := K) (n := 3) (pgs_cons (pg_name (i := 4) nd rfl (.inl rfl)) (pgs_cons (pg_name (i := 5) nd rfl (.inl rfl)) (pgs_cons (pg_name (i := 6) nd rfl (.inl rfl)) pgs_nil))))) (fun _ _ _ _ _ => (pts_one (pt_cmpR (ko_in (K := K)) (pv 5) (pv 2) rfl))) (fun _ _ _ _ _ => (pe_tup (pa_cons (pe_dget hu (pv 3) (pv 4) (fun _ _ => rfl)) (pa_cons (pv 6) pa_nil)))))))), ?_⟩
    refine ⟨_, rfl, a, rfl, ⟨_, hA⟩, fun D nD => ?_⟩
    refine lc_it (walk_list (xs := ax)) (fun i Hx => Same H Hx ∧ ∃ ps : List Addr, Hx D = some (.lst (ps.map V.ref)) ∧ Paired (fun p kv => SqT K Hx p [kV kv.1, kv.2]) ps ((ks.take i).map kvK)) ⟨same_upd nD, [], upd_same, .nil⟩ (fun i Hx _ h => h.1.seq hA) ?_ ?_
    · rintro i x Hx Hy hi ⟨sx, ps, hD, pr⟩ ⟨rfl, gx⟩
      obtain ⟨t, r, rfl, ht, gr⟩ := kd_at (dpAll_same sx da) gx
      refine ⟨rfl, tYes_at ?_⟩
      rw [if_pos rfl]
      have e2 : cutV [V.str r.1, .int r.2.1, .int r.2.2] none (some 2) = [kV (kvK r).1, (kvK r).2] := rfl
      have lps : ps.length = (ks.take i).length := by rw [Paired.length pr, List.length_map]
      rw [List.length_take] at lps
      refine ⟨_, rfl, _, rfl, t, _, rfl, ht, fun z => absurd z.2 (show ¬ HT.sIx 3 3 (some (2 : Int)) = 3 by decide), fun _ u nu => ?_⟩
      rw [e2]
      have su := same_upd (o := .tup [kV (kvK r).1, (kvK r).2]) nu
      have fu : upd Hy u (.tup [kV (kvK r).1, (kvK r).2]) u = some (.tup [kV (kvK r).1, (kvK r).2]) := upd_same
      generalize upd Hy u (.tup [kV (kvK r).1, (kvK r).2]) = Hz at su fu ⊢
      have hD := su _ _ hD
      have nw := Nl.wr (o := .lst (ps.map V.ref ++ [.ref u])) hD
      refine ⟨_, hD, (by rw [List.length_map, sizeLine_eq]; omega), same_put (sx.trans su) nD, ps ++ [u], by rw [List.map_append]; exact upd_same, ?_⟩
      rw [List.take_add_one, gr, Option.toList_some, List.map_append]
      exact paired_snoc (F := fun p (kv : Key × V) => SqT K (upd Hz D (.lst (ps.map V.ref ++ [V.ref u]))) p [kV kv.1, kv.2]) (sqT_nl nw (.inl (.inl fu))) (paired_imp (F := fun p (kv : Key × V) => SqT K Hy p [kV kv.1, kv.2]) (fun p kv h => sqT_nl nw (same_tup su h)) pr)
    rintro Hx ⟨sx, ps, hD, pr⟩
    rw [List.take_of_length_le (by omega)] at pr
    refine ⟨D, ps, ks.map kvK, rfl, SqL.of hD, pr, fun R nR => ?_⟩
    rw [rkD_merge]
    have s5 := sx.trans (same_upd (o := .dK (rkD ks)) nR)
    have hR : upd Hx R (.dK (rkD ks)) R = some (.dK (rkD ks)) := upd_same
    generalize upd Hx R (.dK (rkD ks)) = H5 at s5 hR ⊢
    simp only [gName, List.set]
    refine ⟨_, rfl, b, rfl, ⟨_, s5.seq hB⟩, fun L nL => ?_⟩
    have nL0 := same_free s5 nL
    have hB5 := s5.seq hB
    have db5 := dpAll_same s5 db
    refine lc_it (walk_list (xs := bx)) (fun i H6 => Same H5 H6 ∧ ∃ us, H6 L = some (.lst us) ∧ DpAll K H6 us ((dueG ks (ws.take i) zs).map pcD)) ⟨same_upd nL, [], upd_same, .nil⟩ (fun i H6 _ h => h.1.seq hB5) ?_ ?_
    · rintro i x H6 H7 hi ⟨s6, us, hL, du⟩ ⟨rfl, gx⟩
      obtain ⟨t, r, rfl, ht, gr⟩ := wn_at (dpAll_same s6 db5) gx
      have lus : us.length ≤ 20 := by
        rw [dpAll_map_len du]
        exact Nat.le_trans (dueG_len _ _ _) (by rw [List.length_take]; omega)
      refine ⟨t, _, rfl, ht, rfl, _, _, rfl, _, _, rfl, _, _, rfl, rfl, rfl, ?_⟩
      refine ⟨_, rfl, _, rfl, c, zs.map V.str, rfl, .inl ((s5.trans s6).seq hC), rfl, flat_strs zs, ?_⟩
      refine ⟨_, rfl, ?_⟩
      rw [if_neg Bool.false_ne_true, inV_strs]
      refine ite2 (fun h1 => ?_) (fun h1 => ?_)
      · have h1 := of_decide_eq_true h1
        refine ⟨_, rfl, _, rfl, R, _, rfl, dget_rk (s6 _ _ hR) (hw r (List.mem_of_getElem? gr)), _, rfl, (by show 2 ≤ sizeLine; decide), fun t2 nt2 => ?_⟩
        have su := same_upd (o := .tup [.int (rkI ks r.1), .int r.2.2]) nt2
        refine ⟨us, su _ _ hL, (by rw [sizeLine_eq]; omega), same_put (s6.trans su) nL, us ++ [.ref t2], upd_same, ?_⟩
        rw [dueG_one gr, if_pos h1, List.map_append]
        have nw := Nl.wr (o := .lst (us ++ [.ref t2])) (su _ _ hL)
        exact dpAll_app (pcs_nl nw (dpAll_same su du)) (.cons (.tup (sqT_nl nw (.inl (.inl upd_same))) (.cons (.int _) (.cons (.int _) .nil))) .nil)
      · have h1 : ¬ r.2.1 ∈ zs := fun e => h1 (decide_eq_true e)
        refine ⟨s6, us, hL, ?_⟩
        rw [dueG_one gr, if_neg h1, List.append_nil]
        exact du
    · rintro H6 ⟨s6, us, hL, du⟩
      rw [lb, List.take_length] at du
      exact q _ L us (s5.trans s6) nL0 hL du

end
end Pot





namespace Pot
open PySem PySem.Spec PyProof.Rows L2
section
variable {P : Program} {w : World} {K : PySem.W.Frag} {mg : Str → Option Value} {base : Heap}

/-! ### the mathematics of lacking -/
theorem lack_is {cs os : List Pc} {l : Int} (hc : ∀ p ∈ cs, PcOk p) (ho : ∀ p ∈ os, PcOk p) (h0 : 0 ≤ l) (h1 : ∀ r, abvF os r - abvF cs r ≤ l) (h2 : l = 0 ∨ ∃ r, l = abvF os r - abvF cs r) : lackingF cs os = l := by
  have S := sh_told hc ho
  have a : lackingF cs os ≤ l := by
    rcases S.c2 with z | ⟨j, _, z⟩
    · omega
    · have := h1 (os.getD j pc0).1
      omega
  have b : l ≤ lackingF cs os := by
    rcases h2 with z | ⟨r, z⟩
    · have := S.low; omega
    · have := S.c1 r; omega
  omega
theorem abv_app (ps qs : List Pc) (r : Int) : abvF (ps ++ qs) r = abvF ps r + abvF qs r := by
  unfold abvF
  rw [List.filter_append, List.map_append, sum_app]
theorem abv_one (p : Pc) (r : Int) : abvF [p] r = if r ≤ p.1 then p.2 else 0 := by
  unfold abvF
  by_cases h : r ≤ p.1
  · rw [if_pos h, List.filter_cons_of_pos (p := fun p : Pc => decide (r ≤ p.1)) (decide_eq_true h)]; simp
  · rw [if_neg h, List.filter_cons_of_neg (p := fun p : Pc => decide (r ≤ p.1)) (by simpa using h)]; rfl
theorem abv_cons (p : Pc) (ps : List Pc) (r : Int) : abvF (p :: ps) r = (if r ≤ p.1 then p.2 else 0) + abvF ps r := by
  rw [← abv_one]; exact abv_app [p] ps r
theorem abv_nn {r : Int} : ∀ {ps : List Pc}, (∀ p ∈ ps, PcOk p) → 0 ≤ abvF ps r
  | [], _ => Int.le_refl 0
  | p :: ps, h => by
    rw [abv_cons]
    have := abv_nn (r := r) fun x hx => h x (List.mem_cons_of_mem p hx)
    have := (h p List.mem_cons_self).2.2.1
    split <;> omega
theorem abv_top {r : Int} (hr : 9 < r) : ∀ {ps : List Pc}, (∀ p ∈ ps, PcOk p) → abvF ps r = 0
  | [], _ => rfl
  | p :: ps, h => by
    rw [abv_cons, abv_top hr fun x hx => h x (List.mem_cons_of_mem p hx)]
    have := (h p List.mem_cons_self).2.1
    rw [if_neg (by omega)]; rfl
def tmF (ps : List Pc) (m : Int) : List Pc := ps.map fun p => (p.1, p.2 * m)
theorem abv_tm (m r : Int) : ∀ ps : List Pc, abvF (tmF ps m) r = abvF ps r * m
  | [] => by show (0 : Int) = 0 * m; rw [Int.zero_mul]
  | p :: ps => by
    show abvF ((p.1, p.2 * m) :: tmF ps m) r = _
    rw [abv_cons, abv_cons, abv_tm m r ps, Int.add_mul]
    congr 1
    show (if r ≤ p.1 then p.2 * m else 0) = (if r ≤ p.1 then p.2 else 0) * m
    split
    · rfl
    · rw [Int.zero_mul]
theorem tm_ok {ps : List Pc} {m : Int} (h : ∀ p ∈ ps, PcOk p ∧ p.2 ≤ 3) (m1 : 1 ≤ m) (m2 : m ≤ 100000000) : ∀ p ∈ tmF ps m, PcOk p := fun p hp => by
  obtain ⟨q, hq, rfl⟩ := List.mem_map.mp hp
  obtain ⟨⟨h1, h2, h3, h4⟩, h5⟩ := h q hq
  refine ⟨h1, h2, Int.mul_nonneg h3 (by omega), ?_⟩
  show q.2 * m ≤ 1000000000
  have := Int.mul_le_mul_of_nonneg_right h5 (show 0 ≤ m by omega)
  omega
theorem lack_tm {cs os : List Pc} {m : Int} (hc : ∀ p ∈ cs, PcOk p ∧ p.2 ≤ 3) (ho : ∀ p ∈ os, PcOk p ∧ p.2 ≤ 3) (m1 : 1 ≤ m) (m2 : m ≤ 100000000) : lackingF (tmF cs m) (tmF os m) = lackingF cs os * m := by
  have S := sh_told (fun p hp => (hc p hp).1) (fun p hp => (ho p hp).1)
  refine lack_is (tm_ok hc m1 m2) (tm_ok ho m1 m2) (Int.mul_nonneg S.low (by omega)) (fun r => ?_) ?_
  · rw [abv_tm, abv_tm, ← Int.sub_mul]
    exact Int.mul_le_mul_of_nonneg_right (S.c1 r) (by omega)
  · rcases S.c2 with z | ⟨j, _, z⟩
    · left; rw [z, Int.zero_mul]
    · right; exact ⟨(os.getD j pc0).1, by rw [abv_tm, abv_tm, ← Int.sub_mul, ← z]⟩
theorem lack_nine {cs os : List Pc} {x : Int} (hc : ∀ p ∈ cs, PcOk p) (ho : ∀ p ∈ os, PcOk p) (h0 : 0 ≤ x) (h1 : x ≤ 1000000000) : lackingF (cs ++ [(9, x)]) os = max 0 (lackingF cs os - x) := by
  have S := sh_told hc ho
  have hc2 : ∀ p ∈ cs ++ [(9, x)], PcOk p := fun p hp => (List.mem_append.mp hp).elim (hc p) fun h => by rw [List.mem_singleton.mp h]; exact ⟨show (1 : Int) ≤ 9 by decide, show (9 : Int) ≤ 9 by decide, h0, h1⟩
  refine lack_is hc2 ho (by omega) (fun r => ?_) ?_
  · rw [abv_app, abv_one]
    by_cases z : r ≤ 9
    · rw [if_pos z]
      have := S.c1 r
      show abvF os r - (abvF cs r + x) ≤ _
      omega
    · have a := abv_top (show 9 < r by omega) ho
      have b := abv_nn (r := r) hc
      have c : (if r ≤ ((9, x) : Pc).1 then ((9, x) : Pc).2 else 0) = 0 := if_neg z
      rw [c]
      omega
  · by_cases z : lackingF cs os - x ≤ 0
    · left; omega
    · right
      rcases S.c2 with y | ⟨j, hj, y⟩
      · omega
      · refine ⟨(os.getD j pc0).1, ?_⟩
        have h9 := (pcs_getD ho hj).2.1
        rw [abv_app, abv_one, if_pos h9]
        show _ = _ - (_ + x)
        omega
theorem lack_more {cs os : List Pc} {p : Pc} (hc : ∀ p ∈ cs, PcOk p) (ho : ∀ p ∈ os, PcOk p) (hp : PcOk p) : lackingF (cs ++ [p]) os ≤ lackingF cs os ∧ lackingF cs os - p.2 ≤ lackingF (cs ++ [p]) os := by
  have S := sh_told hc ho
  have hc2 : ∀ q ∈ cs ++ [p], PcOk q := fun q hq => (List.mem_append.mp hq).elim (hc q) fun h => by rw [List.mem_singleton.mp h]; exact hp
  have S2 := sh_told hc2 ho
  have p0 := hp.2.2.1
  have e : ∀ r, abvF (cs ++ [p]) r = abvF cs r + if r ≤ p.1 then p.2 else 0 := fun r => by rw [abv_app, abv_one]
  constructor
  · rcases S2.c2 with z | ⟨j, _, z⟩
    · have := S.low; omega
    · have a := S.c1 (os.getD j pc0).1
      rw [e] at z
      split at z <;> omega
  · rcases S.c2 with z | ⟨j, _, z⟩
    · have := S2.low; omega
    · have a := S2.c1 (os.getD j pc0).1
      rw [e] at a
      split at a <;> omega
theorem lack_none {os : List Pc} (ho : ∀ p ∈ os, PcOk p) : lackingF [] os = (os.map (·.2)).sum := by
  have S := sh_told (cs := []) (fun p h => (List.not_mem_nil h).elim) ho
  have : rowsF [] os = [] := by
    cases e : rowsF [] os with
    | nil => rfl
    | cons r rs =>
      have := (S.rows r (by rw [e]; exact List.mem_cons_self)).2.1
      exact absurd this (Nat.not_lt_zero _)
  have l := S.lk
  rw [this] at l
  show lackingF [] os = _
  rw [← l]
  show _ - 0 = _
  omega
theorem lack_sub {cs os qs : List Pc} (hc : ∀ p ∈ cs, PcOk p) (ho : ∀ p ∈ os, PcOk p) (hq : ∀ p ∈ qs, PcOk p) (h : ∀ r, abvF qs r ≤ abvF os r) : lackingF cs qs ≤ lackingF cs os := by
  have S := sh_told hc ho
  have S2 := sh_told hc hq
  rcases S2.c2 with z | ⟨j, _, z⟩
  · have := S.low; omega
  · have := S.c1 (qs.getD j pc0).1
    have := h (qs.getD j pc0).1
    omega
theorem lacks_is {cs os : List Pc} (hc : ∀ p ∈ cs, PcOk p) (ho : ∀ p ∈ os, PcOk p) {m : Int} (hm : m ∈ (List.range 9).map fun k : Nat => lackF cs os (1 + (k : Int))) (hx : ∀ y ∈ (List.range 9).map (fun k : Nat => lackF cs os (1 + (k : Int))), y ≤ m) : m = lackingF cs os := by
  have S := sh_told hc ho
  have a : m ≤ lackingF cs os := by
    obtain ⟨k, _, rfl⟩ := List.mem_map.mp hm
    have := S.c1 (1 + (k : Int))
    have := S.low
    unfold lackF
    omega
  have b : lackingF cs os ≤ m := by
    rcases S.c2 with z | ⟨j, hj, z⟩
    · have := hx (lackF cs os (1 + ((0 : Nat) : Int))) (List.mem_map_of_mem (List.mem_range.mpr (by decide)))
      unfold lackF at this
      omega
    · obtain ⟨r1, r9, _⟩ := pcs_getD ho hj
      have := hx (lackF cs os (1 + ((((os.getD j pc0).1 - 1).toNat : Nat) : Int))) (List.mem_map_of_mem (List.mem_range.mpr (by omega)))
      rw [show (1 + ((((os.getD j pc0).1 - 1).toNat : Nat) : Int)) = (os.getD j pc0).1 by omega] at this
      unfold lackF at this
      omega
  omega
abbrev s__law_times : Stmt := topS 20
def n__law_times : List Str := ["_law_pairs", "_law_much", "_law_rank", "_law_many"]
theorem sc__law_times : FnScope n__law_times ["_law_pairs", "_law_much"] (defScope s__law_times) := ⟨rfl, rfl, rfl, by decide +kernel, rfl, by decide +kernel, by decide +kernel⟩
def spTimes (K : PySem.W.Frag) : Sp := fun vs H Q _ => ∃ (a : Addr) (m : Int) (xs : List V) (ps : List Pc), vs = [.ref a, .int m] ∧ SqL K H a xs ∧ DpAll K H xs (ps.map pcD) ∧ ps.length ≤ 20 ∧ (∀ p ∈ ps, 0 ≤ p.2 ∧ p.2 ≤ 3) ∧ ∀ (H' : Hp) (L : Addr) (us : List V), Same H H' → H L = none → H' L = some (.lst us) → DpAll K H' us ((tmF ps m).map pcD) → Q (.ref L) H'
theorem ok_times {f : Addr} {fd : FuncData} {k : Nat} (F : Fun K "_law_times" "_law_times" s__law_times f fd) (T : Txt mg) : FnOk P w K mg base CX0 (k + 1) f fd ["_law_pairs", "_law_much"] (spTimes K) := by
  refine F.ok sc__law_times (fun vs H Q E h => ?_) (fun cdv A outer s H vs Q E hr h => ?_)
  · obtain ⟨a, m, xs, ps, rfl, _⟩ := h
    rfl
  · obtain ⟨a, m, xs, ps, rfl, hS, da, l20, hp, q⟩ := h
    have nd := sc__law_times.nd
    have lx : xs.length = ps.length := dpAll_map_len da
    refine ⟨_, (pss_one (ps_ret (pe_lc (own := [("_law_rank", 2), ("_law_many", 3)]) rfl nd (ki_list (K := K) (pv 0)) (blkOk_by (N := n__law_times) (sc := defScope s__law_times) (by decide +kernel)) (fun _ _ _ _ _ => (kg_tup (K := K) (n := 2) (pgs_cons (pg_name (i := 2) nd rfl (.inl rfl)) (pgs_cons (pg_name (i := 3) nd rfl (.inl rfl)) pgs_nil)))) (fun _ _ _ _ _ => pts_nil) (fun _ _ _ _ _ => (pe_tup (pa_cons (pv 2) (pa_cons (pe_op op_mul (pv 3) (pv 1)) pa_nil))))))), ?_⟩
    refine ⟨_, rfl, a, rfl, ⟨_, hS⟩, fun L nL => ?_⟩
    refine lc_it (walk_list (xs := xs)) (fun i Hx => Same H Hx ∧ ∃ us, Hx L = some (.lst us) ∧ DpAll K Hx us ((tmF (ps.take i) m).map pcD)) ⟨same_upd nL, [], upd_same, .nil⟩ (fun i Hx _ h => h.1.seq hS) ?_ ?_
    · rintro i y Hx Hy hi ⟨sx, us, hL, du⟩ ⟨rfl, gx⟩
      obtain ⟨b, rfl, hb, hi2, _⟩ := pcs_at (dpAll_same sx da) gx
      have gp : ps[i]? = some (ps.getD i pc0) := by rw [List.getD_eq_getElem?_getD, List.getElem?_eq_getElem hi2]; rfl
      have hpi := pcs_getD (p := fun p => 0 ≤ p.2 ∧ p.2 ≤ 3) hp hi2
      generalize ps.getD i pc0 = pr at hb gp hpi
      obtain ⟨h0, h3⟩ : 0 ≤ pr.2 ∧ pr.2 ≤ 3 := hpi
      refine ⟨b, _, rfl, hb, rfl, _, _, rfl, _, _, rfl, rfl, rfl, tYes_at ?_⟩
      rw [if_pos rfl]
      have lus : us.length ≤ 20 := by
        rw [dpAll_map_len du]
        unfold tmF
        rw [List.length_map, List.length_take]; omega
      refine ⟨_, rfl, _, rfl, _, rfl, _, _, rfl, rfl, .inl ⟨by omega, by omega⟩, (by show 2 ≤ sizeLine; decide), fun t2 nt2 => ?_⟩
      have su := same_upd (o := .tup [.int pr.1, .int (pr.2 * m)]) nt2
      refine ⟨us, su _ _ hL, (by rw [sizeLine_eq]; omega), same_put (sx.trans su) nL, us ++ [.ref t2], upd_same, ?_⟩
      have nw := Nl.wr (o := .lst (us ++ [.ref t2])) (su _ _ hL)
      have e : tmF (ps.take (i + 1)) m = tmF (ps.take i) m ++ [(pr.1, pr.2 * m)] := by
        unfold tmF
        rw [List.take_add_one, gp, List.map_append]; rfl
      rw [e, List.map_append]
      exact dpAll_app (pcs_nl nw (dpAll_same su du)) (.cons (.tup (sqT_nl nw (.inl (.inl upd_same))) (.cons (.int _) (.cons (.int _) .nil))) .nil)
    · rintro Hx ⟨sx, us, hL, du⟩
      rw [List.take_of_length_le (by omega)] at du
      exact q _ L us sx nL hL du

end
end Pot





namespace Pot
open PySem PySem.Spec PyProof.Rows L2
section
variable {P : Program} {w : World} {K : PySem.W.Frag} {mg : Str → Option Value} {base : Heap}

theorem decR_rw (r : Rw) : decR (rwD r) = r := by
  show (((r.1 : Nat) : Int).toNat, ((r.2.1 : Nat) : Int).toNat, r.2.2) = r
  rw [Int.toNat_natCast, Int.toNat_natCast]
theorem decR_map (rs : List Rw) : (rs.map rwD).map decR = rs := by
  rw [List.map_map]
  conv => rhs; rw [← List.map_id rs]
  exact List.map_congr_left fun r _ => decR_rw r
theorem are_ok {cs os : List Pc} {rs : List Rw} (h : RowsOk cs os rs) : areD cs os (.list (rs.map rwD)) = true := by
  show (((List.range (rs.map rwD).length).all (stepB cs os (rs.map rwD))) && sumsB cs os ((rs.map rwD).map decR)) = true
  rw [decR_map, Bool.and_eq_true]
  constructor
  · rw [List.all_eq_true]
    intro i hi
    have hi := List.mem_range.mp hi
    rw [List.length_map] at hi
    have g : ∀ j (hj : j < rs.length), (rs.map rwD).getD j .none = rwD rs[j] := fun j hj => by
      rw [List.getD_eq_getElem?_getD, List.getElem?_map, List.getElem?_eq_getElem hj]; rfl
    unfold stepB
    rw [g i hi, Bool.and_eq_true]
    obtain ⟨h1, h2, h3, h4⟩ := h.rows _ (List.getElem_mem hi)
    constructor
    · show (decide (0 ≤ ((rs[i].1 : Nat) : Int)) && (decide (((rs[i].1 : Nat) : Int) < os.length) && (decide (0 ≤ ((rs[i].2.1 : Nat) : Int)) && (decide (((rs[i].2.1 : Nat) : Int) < cs.length) && (decide (1 ≤ rs[i].2.2) && decide ((os.getD ((rs[i].1 : Nat) : Int).toNat pc0).1 ≤ (cs.getD ((rs[i].2.1 : Nat) : Int).toNat pc0).1)))))) = true
      rw [Int.toNat_natCast, Int.toNat_natCast]
      simp only [Bool.and_eq_true, decide_eq_true_eq]
      exact ⟨by omega, by omega, by omega, by omega, h4, h3⟩
    · cases i with
      | zero => rfl
      | succ i =>
        have q := List.pairwise_iff_getElem.mp h.rise i (i + 1) (by omega) hi (by omega)
        rw [Nat.add_sub_cancel, g i (by omega), decR_rw, decR_rw, Bool.or_eq_true]
        refine .inr ?_
        unfold lt2
        simp only [Bool.or_eq_true, Bool.and_eq_true, decide_eq_true_eq]
        exact q
  · unfold sumsB
    rw [Bool.and_eq_true, List.all_eq_true, List.all_eq_true]
    exact ⟨fun k _ => decide_eq_true (h.crs k), fun k hk => decide_eq_true (h.ors k (List.mem_range.mp hk))⟩
theorem pc_pos {ps : List Pc} (h : ∀ p ∈ ps, PcOk p) (k : Nat) : 0 ≤ (ps.getD k pc0).2 := by
  by_cases hk : k < ps.length
  · exact (pcs_getD h hk).2.2.1
  · rw [List.getD_eq_getElem?_getD, List.getElem?_eq_none (by omega)]
    show 0 ≤ pc0.2
    decide
theorem are_nil {cs os : List Pc} (hc : ∀ p ∈ cs, PcOk p) (ho : ∀ p ∈ os, PcOk p) : areD cs os (.list []) = true :=
  are_ok (rs := []) ⟨fun _ h => (List.not_mem_nil h).elim, .nil, fun k => pc_pos hc k, fun k _ => pc_pos ho k⟩
def toldD (cs os : List Pc) : PyData := .tuple [.list ((sortR (rowsF cs os)).map rwD), .int (lackingF cs os), optD (lrF cs os (lackingF cs os))]
theorem lr_some {cs os : List Pc} {l : Int} (h : l ≠ 0) (hl : ∃ p ∈ os, lackF cs os p.1 = l) : ∃ m, lrF cs os l = some m ∧ lackF cs os m = l := by
  obtain ⟨p0, hp0, ep0⟩ := hl
  unfold lrF
  rw [if_neg h]
  have m0 : p0.1 ∈ ((os.filter fun p => decide (lackF cs os p.1 = l))).map (·.1) := List.mem_map_of_mem (List.mem_filter.mpr ⟨hp0, decide_eq_true ep0⟩)
  cases e : (((os.filter fun p => decide (lackF cs os p.1 = l))).map (·.1)).min? with
  | none =>
    rw [List.min?_eq_none_iff.mp e] at m0
    exact (List.not_mem_nil m0).elim
  | some m =>
    obtain ⟨p, hp, rfl⟩ := List.mem_map.mp (List.min?_mem e)
    exact ⟨_, rfl, of_decide_eq_true (List.mem_filter.mp hp).2⟩
def lacksF (cs os : List Pc) (i : Nat) : List Int := (List.range i).map fun k : Nat => abvF os (1 + (k : Int)) - abvF cs (1 + (k : Int))
theorem lacks_max {cs os : List Pc} {l m : Int} (S : ShT cs os (rowsF cs os) l) (ho : ∀ p ∈ os, PcOk p) (hm : m ∈ lacksF cs os 9 ++ [0]) (h : ∀ y ∈ lacksF cs os 9 ++ [0], y ≤ m) : m = l := by
  have a : m ≤ l := by
    rcases List.mem_append.mp hm with z | z
    · obtain ⟨k, _, rfl⟩ := List.mem_map.mp z
      exact S.c1 _
    · rw [List.mem_singleton.mp z]; exact S.low
  have b : l ≤ m := by
    rcases S.c2 with z | ⟨j, hj, z⟩
    · rw [z]; exact h 0 (List.mem_append_right _ (by simp))
    · have e : os.getD j pc0 = os[j] := by rw [List.getD_eq_getElem?_getD, List.getElem?_eq_getElem hj]; rfl
      obtain ⟨r1, r9, _⟩ := ho os[j] (List.getElem_mem hj)
      rw [e] at z
      refine h l (List.mem_append_left _ (List.mem_map.mpr ⟨(os[j].1 - 1).toNat, List.mem_range.mpr (by omega), ?_⟩))
      rw [show (1 + (((os[j].1 - 1).toNat : Nat) : Int)) = os[j].1 by omega]
      exact z.symm
  omega
theorem sumR_sort (rs : List Rw) : sumR (sortR rs) = sumR rs := perm_sum ((sortR_perm rs).map fun r : Rw => r.2.2)

theorem seq_mid {t u : TS} {D} {σ : L2.St} {H : Hp} (G : L2.St → Hp → Prop) (h1 : ∀ N : L2.St → Hp → Prop, (∀ σ' H', G σ' H' → N σ' H') → t { D with nx := N } σ H) (h2 : ∀ σ' H', G σ' H' → u D σ' H') : tSeq t u D σ H := h1 (u D) h2
theorem rows_wid {rs : List Rw} (h : rs.length ≤ 4000) : widAll.wid (.list (rs.map rwD)) ≤ 4000 := by
  refine Nat.max_le.mpr ⟨by rw [List.length_map]; exact h, widAll_iff.mpr fun d hd => ?_⟩
  obtain ⟨r, _, rfl⟩ := List.mem_map.mp hd
  show max 3 (max 0 (max 0 (max 0 0))) ≤ 4000
  decide
theorem sumR_nn : ∀ {rs : List Rw}, (∀ r ∈ rs, 0 ≤ r.2.2) → 0 ≤ sumR rs
  | [], _ => Int.le_refl 0
  | r :: rs, h => by
    have h1 := h r List.mem_cons_self
    have h2 := sumR_nn fun x hx => h x (List.mem_cons_of_mem r hx)
    show 0 ≤ r.2.2 + sumR rs
    omega
theorem ext_put {H H1 : Hp} {D : Addr} {o : HO} (x : LamX.ExtN H H1) (n : H D = none) : LamX.ExtN H (upd H1 D o) := fun b u e ne => by
  rw [upd_ne (ne_of_none e n)]; exact x b u e ne
theorem areD_no {cs os : List Pc} {rs : List Rw} {r : Rw} (pos : ∀ x ∈ rs, 0 ≤ x.2.2) (hr : r ∈ rs) (hk : r.2.1 < cs.length) (h : (cs.getD r.2.1 pc0).2 < r.2.2) : areD cs os (.list (rs.map rwD)) = false := by
  cases e : areD cs os (.list (rs.map rwD)) with
  | false => rfl
  | true =>
    have e : (((List.range (rs.map rwD).length).all (stepB cs os (rs.map rwD))) && sumsB cs os ((rs.map rwD).map decR)) = true := e
    rw [Bool.and_eq_true] at e
    have e2 := e.2
    unfold sumsB at e2
    rw [Bool.and_eq_true, List.all_eq_true] at e2
    have e3 := of_decide_eq_true (e2.1 r.2.1 (List.mem_range.mpr hk))
    have ed : (rs.map rwD).map decR = rs := decR_map rs
    rw [ed] at e3
    have : r.2.2 ≤ crS rs r.2.1 := by
      unfold crS
      exact sum_ge (f := fun r : Rw => r.2.2) (fun x hx => pos x (List.mem_filter.mp hx).1) (List.mem_filter.mpr ⟨hr, decide_eq_true rfl⟩)
    omega
abbrev s__law_colour_right : Stmt := topS 21
def n__law_colour_right : List Str := ["_law_crews", "_law_orders_here", "_law_much", "_law_before", "_law_rows", "_law_lacking", "_law_rank", "_law_many", "_law_wants", "_law_ends", "_law_place", "_law_order", "_law_crew", "_law_more", "_law_own", "_law_one"]
theorem sc__law_colour_right : FnScope n__law_colour_right ["_law_crews", "_law_orders_here", "_law_much", "_law_before"] (defScope s__law_colour_right) := ⟨rfl, rfl, rfl, by decide +kernel, rfl, by decide +kernel, by decide +kernel⟩
def spCol (K : PySem.W.Frag) (Pt : Addr) : Sp := fun vs H Q _ => ∃ (c o t : Addr) (m b0 b1 : Int) (xs ys : List V) (cs os : List Pc), vs = [.ref c, .ref o, .int m, .ref t] ∧ H c = some (.lst xs) ∧ H o = some (.lst ys) ∧ H t = some (.tup [.int b0, .int b1]) ∧ DpAll K H xs (cs.map pcD) ∧ DpAll K H ys (os.map pcD) ∧ SmallP 4 cs ∧ SmallP 5 os ∧ 1 ≤ m ∧ m ≤ 100000000 ∧ lackingF cs os ≤ b0 ∧ b0 - b1 ≤ lackingF cs os ∧ LamX.Tabs [(Pt, qShared)] H ∧
  ∀ H', LamX.ExtN H H' → LamX.Tabs [(Pt, qShared)] H' → Q (.int (lackingF cs os)) H'
set_option maxHeartbeats 4000000 in
theorem ok_colr {f Pt : Addr} {fd : FuncData} {k : Nat} (F : Fun K "_law_colour_right" "_law_colour_right" s__law_colour_right f fd) (T : Txt mg) (c_shared : Cl P w K mg base (k + 4) "shared" (spShared K Pt)) (c__law_most : Cl P w K mg base (k + 7) "_law_most" (spMostW K)) (c_lack_by : Cl P w K mg base (k + 2) "lack_by" (spLack K)) (c__law_times : Cl P w K mg base (k + 1) "_law_times" (spTimes K)) (c_shows_share : Cl P w K mg base (k + 3) "shows_share" (spShows K)) : FnOk P w K mg base CX0 (k + 8) f fd ["_law_crews", "_law_orders_here", "_law_much", "_law_before"] (spCol K Pt) := by
  refine F.ok sc__law_colour_right (fun vs H Q E h => ?_) (fun cdv A outer s H vs Q E hr h => ?_)
  · obtain ⟨c, o, t, m, b0, b1, xs, ys, cs, os, rfl, _⟩ := h
    rfl
  · obtain ⟨c, o, t, m, b0, b1, xs, ys, cs, os, rfl, hC, hO, ht, dc, dO, sc, so, m1, m2, lb0, lb1, tb, q⟩ := h
    have nd := sc__law_colour_right.nd
    have hu64 := hr.units
    /- 0 _law_crews, 1 _law_orders_here, 2 _law_much, 3 _law_before, 4 _law_rows, 5 _law_lacking, 6 _law_rank, 7 _law_many, 8 _law_wants, 9 _law_ends, 10 _law_place, 11 _law_order, 12 _law_crew, 13 _law_more, 14 _law_own, 15 _law_one -/
    refine ⟨_, (pss_cons (ps_asg (pe_cl c_shared hr (by omega) (by rfl) (pa_cons (pv 0) (pa_cons (pv 1) pa_nil))) (kg_tup (K := K) (n := 3) (pgs_cons (pg_name (i := 4) nd rfl (.inl rfl)) (pgs_cons (pg_name (i := 5) nd rfl (.inl rfl)) (pgs_cons (pg_name (i := 6) nd rfl (.inl rfl)) pgs_nil)))))
      (pss_cons (ps_set (i := 8) nd rfl (.inl rfl) (pe_callB (kc_sum (K := K)) (by rfl) T.sum (by decide +kernel) (pa_cons (pe_lc (own := [("_law_own", 14), ("_law_many", 7)]) rfl nd (ki_list (K := K) (pv 1)) (blkOk_by (N := n__law_colour_right) (sc := defScope s__law_colour_right) (by decide +kernel)) (fun _ _ _ _ _ => (kg_tup (K := K) (n := 2) (pgs_cons (pg_name (i := 14) nd rfl (.inl rfl)) (pgs_cons (pg_name (i := 7) nd rfl (.inl rfl)) pgs_nil)))) (fun _ _ _ _ _ => pts_nil) (fun _ _ _ _ _ => (pv 7))) pa_nil)))
      (pss_cons (ps_if ((pw_or (pt_cmpR op_ne (pe_op op_sub (pv 8) (pv 5)) (pe_cl c__law_most hr (by omega) (by rfl) (pa_cons (pv 0) (pa_cons (pv 1) pa_nil))) (nomark _)) (pw_or1 (pt_cmpR op_gt (pv 5) (pe_ix (kx_tup (K := K)) (pv 3) pe_int (fun _ _ => rfl)) (nomark _))))).pt
          pss_never
          pss_nil)
      (pss_cons (ps_if ((pw_or (pt_cmpR op_lt (pv 5) (pe_op op_sub (pe_ix (kx_tup (K := K)) (pv 3) pe_int (fun _ _ => rfl)) (pe_ix (kx_tup (K := K)) (pv 3) pe_int (fun _ _ => rfl))) (nomark _)) (pw_or1 (pt_cmpR op_ne (pe_callB (kc_max (K := K)) (by rfl) T.max (by decide +kernel) (pa_cons (pe_lc (own := [("_law_one", 15)]) rfl nd (pi_range2 (by rfl) T.range (pa_cons pe_int (pa_cons pe_int pa_nil))) (blkOk_by (N := n__law_colour_right) (sc := defScope s__law_colour_right) (by decide +kernel)) (fun _ _ _ _ _ => (pg_name (i := 15) nd rfl (.inl rfl))) (fun _ _ _ _ _ => pts_nil) (fun _ _ _ _ _ => (pe_cl c_lack_by hr (by omega) (by rfl) (pa_cons (pv 0) (pa_cons (pv 1) (pa_cons (pv 15) pa_nil)))))) pa_nil)) (pv 5) (nomark _))))).pt
          pss_never
          pss_nil)
      (pss_cons (ps_if (pt_cmpR op_ne (pe_ix (kx_tup (K := K)) (pe_cl c_shared hr (by omega) (by rfl) (pa_cons (pe_cl c__law_times hr (by omega) (by rfl) (pa_cons (pv 0) (pa_cons (pv 2) pa_nil))) (pa_cons (pe_cl c__law_times hr (by omega) (by rfl) (pa_cons (pv 1) (pa_cons (pv 2) pa_nil))) pa_nil))) pe_int (fun _ _ => rfl)) (pe_op op_mul (pv 5) (pv 2)) (nomark _))
          pss_never
          pss_nil)
      (pss_cons (ps_if ((pw_or (pt_cmpR op_notBl (pe_cl c_shows_share hr (by omega) (by rfl) (pa_cons (pv 0) (pa_cons (pv 1) (pa_cons (pv 4) pa_nil)))) pe_bl (nomark _)) (pw_or1 (pt_cmpR op_ne (pe_cmpR op_isN (pv 6) pe_non (nomark _)) (pe_cmpR op_eq (pv 5) pe_int (nomark _)) (nomark _))))).pt
          pss_never
          pss_nil)
      (pss_cons (ps_if (pt_cmpR op_gt (pv 5) pe_int (nomark _))
          (pss_cons (ps_setLc (i := 9) (own := [("_law_many", 7)]) rfl nd rfl rfl (sw_true rfl rfl rfl (by decide +kernel)) (ki_tup (K := K) (pe_tup (pa_cons (pv 5) (pa_cons (pe_op op_sub (pv 5) pe_int) pa_nil)))) (blkOk_by (N := n__law_colour_right) (sc := defScope s__law_colour_right) (by decide +kernel)) (fun _ _ _ _ _ => (pg_name (i := 7) nd rfl (.inl rfl))) (fun _ _ _ _ _ => pts_nil) (fun _ _ _ _ _ => (pe_ix (kx_tup (K := K)) (pe_cl c_shared hr (by omega) (by rfl) (pa_cons (pe_op op_cat (pv 0) (pe_lst (pa_cons (pe_tup (pa_cons pe_int (pa_cons (pv 7) pa_nil))) pa_nil))) (pa_cons (pv 1) pa_nil))) pe_int (fun _ _ => rfl))))
          (pss_one (ps_if (pt_cmpR (ko_ne (K := K) hu64) (pv 9) (pe_lst (pa_cons pe_int (pa_cons pe_int pa_nil))) (nomark _))
              pss_never
              pss_nil)))
          pss_nil)
      (pss_cons (ps_for PassesOwn.never rfl (ki_enum (K := K) (by rfl) T.enumerate (pa_cons (pv 4) pa_nil)) (kg_tup (K := K) (n := 2) (pgs_cons (pg_name (i := 10) nd rfl (.inl rfl)) (pgs_cons (kg_tup (K := K) (n := 3) (pgs_cons (pg_name (i := 11) nd rfl (.inl rfl)) (pgs_cons (pg_name (i := 12) nd rfl (.inl rfl)) (pgs_cons (pg_name (i := 7) nd rfl (.inl rfl)) pgs_nil)))) pgs_nil)))
          (pss_cons (ps_set (i := 13) nd rfl (.inl rfl) (pe_op op_cat (pe_op op_cat (pe_slice (kl_list (K := K)) (pv 4) po_none (po_some (pv 10))) (pe_lst (pa_cons (pe_tup (pa_cons (pv 11) (pa_cons (pv 12) (pa_cons (pe_op op_add (pe_ix (kx_tup (K := K)) (pe_ix (kx_list (K := K)) (pv 0) (pv 12) (fun _ _ => rfl)) pe_int (fun _ _ => rfl)) pe_int) pa_nil)))) pa_nil))) (pe_slice (kl_list (K := K)) (pv 4) (po_some (pe_op op_add (pv 10) pe_int)) po_none)))
          (pss_one (ps_if (pt_cmpR op_notBl (pe_cl c_shows_share hr (by omega) (by rfl) (pa_cons (pv 0) (pa_cons (pv 1) (pa_cons (pv 13) pa_nil)))) pe_bl (nomark _))
              pss_never
              pss_nil))))
      (pss_one (ps_ret (pv 5))))))))))), ?_⟩
    have nt : ∀ {xs : List V} (ps : Array Value), HO.lst xs ≠ .tbl ps := fun ps z => by cases z
    have ntt : ∀ {xs : List V} (ps : Array Value), HO.tup xs ≠ .tbl ps := fun ps z => by cases z
    have kc : ∀ p ∈ cs, PcOk p := fun p hp => (sc.2 p hp).1
    have ko : ∀ p ∈ os, PcOk p := fun p hp => (so.2 p hp).1
    have lc := sc.1
    have lo := so.1
    have ly : ys.length = os.length := dpAll_map_len dO
    have lx : xs.length = cs.length := dpAll_map_len dc
    have S := sh_told kc ko
    have ROk := sortR_ok S
    have top : ∀ l x, Snd cs os os.length l x → x ≤ sumR (sortR (rowsF cs os)) := fun l x h => by rw [sumR_sort]; exact most_is S kc ko h
    have elk : lackingF cs os = (os.map (·.2)).sum - sumR (sortR (rowsF cs os)) := by rw [sumR_sort]; exact S.lk.symm
    refine ⟨_, rfl, _, rfl, c, o, xs, ys, cs, os, rfl, SqL.of hC, SqL.of hO, dc, dO, by omega, by omega, kc, ko, (fun l hl => ne_of_none hC hl), (fun l hl => ne_of_none hO hl), tb, fun H1 t1 R zs x1 tb1 _ ht1 hR dz z4 => ?_⟩
    have hC := x1 _ _ hC nt
    have hO := x1 _ _ hO nt
    have ht := x1 _ _ ht ntt
    have dc := pcs_nl (Nl.ext x1) dc
    have dO := pcs_nl (Nl.ext x1) dO
    have lz : zs.length = (sortR (rowsF cs os)).length := dpAll_map_len dz
    refine ⟨t1, _, rfl, .inl (.inl ht1), rfl, _, _, rfl, _, _, rfl, _, _, rfl, rfl, ?_⟩
    simp only [gName, gCons, gNil, List.set]
    clear ht1 tb
    refine seq_mid (fun σ Hx => ∃ v7 ve, σ = [some (.ref c), some (.ref o), some (.int m), some (.ref t), some (.ref R), some (.int (lackingF cs os)), some (opV (lrF cs os (lackingF cs os))), v7, some (.int (os.map (·.2)).sum), none, none, none, none, none, ve, none] ∧ Same H1 Hx) (fun N hN => ?_) (fun σ Hx h => ?_)
    · refine ⟨_, rfl, o, rfl, ⟨_, SqL.of hO⟩, fun D1 nD1 => ?_⟩
      refine lc_it (walk_list (xs := ys)) (PvL H1 D1 fun i => ((os.take i).map (·.2)).map V.int) (pv_start nD1 rfl) (fun i H4 _ h => SqL.of (h.1 _ _ hO)) ?_ ?_
      · rintro i y H4 H5 hi p ⟨rfl, gx⟩
        obtain ⟨b, rfl, hb, hi2, _⟩ := pcs_at (dpAll_same p.1 dO) gx
        have gp : os[i]? = some (os.getD i pc0) := by rw [List.getD_eq_getElem?_getD, List.getElem?_eq_getElem hi2]; rfl
        generalize os.getD i pc0 = pr at hb gp
        refine ⟨b, _, rfl, hb, rfl, _, _, rfl, _, _, rfl, rfl, rfl, tYes_at ?_⟩
        rw [if_pos rfl]
        refine ⟨_, rfl, pv_put nD1 p (Same.refl _) (by rw [List.take_add_one, gp, List.map_append, List.map_append]; rfl) ?_⟩
        rw [List.length_map, List.length_map, List.length_take, sizeLine_eq]; omega
      intro Hs p
      obtain ⟨ss, hD⟩ := pv_end p (show _ = (os.map (·.2)).map V.int by rw [ly, List.take_length])
      clear p
      exact ⟨D1, _, rfl, SqL.of hD, hN _ _ ⟨_, _, rfl, ss⟩⟩
    obtain ⟨v7, ve, rfl, s2⟩ := h
    have x2 := x1.trans (.of s2)
    have tb2 := tb1.ext s2
    have hC := s2 _ _ hC
    have hO := s2 _ _ hO
    have hR := s2 _ _ hR
    have ht := s2 _ _ ht
    have dc := dpAll_same s2 dc
    have dO := dpAll_same s2 dO
    have dz := dpAll_same s2 dz
    clear s2 x1 tb1
    refine seq_mid (fun σ Hy => σ = [some (.ref c), some (.ref o), some (.int m), some (.ref t), some (.ref R), some (.int (lackingF cs os)), some (opV (lrF cs os (lackingF cs os))), v7, some (.int (os.map (·.2)).sum), none, none, none, none, none, ve, none] ∧ Same Hx Hy) (fun N hN => ?_) (fun σ Hy h => ?_)
    · refine ⟨_, rfl, _, rfl, _, _, rfl, rfl, _, rfl, _, rfl, c, o, xs, ys, cs, os, sortR (rowsF cs os), rfl, SqL.of hC, SqL.of hO, dc, dO, sc, so, ROk, top, fun Hm sm => ?_⟩
      refine ⟨rfl, _, rfl, iteNS (by show V.int (_ - _) = V.int _; exact congrArg V.int (by omega)) ?_⟩
      refine ⟨_, rfl, _, rfl, t, _, 0, _, rfl, rfl, .inl (.inl (sm _ _ ht)), rfl, _, _, rfl, rfl, _, rfl, iteN (by omega) ?_⟩
      exact hN _ _ ⟨rfl, sm⟩
    obtain ⟨rfl, s2⟩ := h
    have x2 := x2.trans (.of s2)
    have tb2 := tb2.ext s2
    have hC := s2 _ _ hC
    have hO := s2 _ _ hO
    have hR := s2 _ _ hR
    have ht := s2 _ _ ht
    have dc := dpAll_same s2 dc
    have dO := dpAll_same s2 dO
    have dz := dpAll_same s2 dz
    clear s2 top
    refine seq_mid (fun σ Hx => σ = [some (.ref c), some (.ref o), some (.int m), some (.ref t), some (.ref R), some (.int (lackingF cs os)), some (opV (lrF cs os (lackingF cs os))), v7, some (.int (os.map (·.2)).sum), none, none, none, none, none, ve, none] ∧ Same Hy Hx) (fun N hN => ?_) (fun σ Hx h => ?_)
    · refine ⟨_, rfl, _, rfl, t, _, 0, _, rfl, rfl, .inl (.inl ht), rfl, _, rfl, t, _, 1, _, rfl, rfl, .inl (.inl ht), rfl, _, _, rfl, rfl, _, _, rfl, rfl, _, rfl, iteN (by omega) ?_⟩
      refine ⟨_, _, rfl, ⟨by decide, by decide, by decide, by decide⟩, fun D nD => ?_⟩
      refine lc_it walk_range (PvL Hy D fun i => ((List.range i).map fun k : Nat => lackF cs os (1 + (k : Int))).map V.int) (pv_start nD rfl) (fun _ _ _ _ => trivial) ?_ ?_
      · rintro i y H4 H5 hi p ⟨rfl, rfl⟩
        have hi9 : i < 9 := hi
        refine ⟨rfl, tYes_at ?_⟩
        rw [if_pos rfl]
        refine ⟨_, rfl, _, rfl, _, rfl, c, o, xs, ys, cs, os, _, rfl, SqL.of (p.1 _ _ hC), SqL.of (p.1 _ _ hO), dpAll_same p.1 dc, dpAll_same p.1 dO, by omega, by omega, fun H6 s6 => ?_⟩
        refine pv_put nD p s6 (by rw [List.range_succ, List.map_append, List.map_append]; rfl) ?_
        rw [List.length_map, List.length_map, List.length_range, sizeLine_eq]; omega
      intro Hs p
      obtain ⟨ss, hD⟩ := pv_end p (show _ = ((List.range 9).map fun k : Nat => lackF cs os (1 + (k : Int))).map V.int from rfl)
      clear p
      refine ⟨D, (List.range 9).map fun k : Nat => lackF cs os (1 + (k : Int)), rfl, SqL.of hD, (by rw [List.length_map, List.length_range]; decide), fun mx hm hx => ?_⟩
      obtain rfl := lacks_is kc ko hm hx
      exact ⟨_, rfl, rfl, _, rfl, iteNS rfl (hN _ _ ⟨rfl, ss⟩)⟩
    obtain ⟨rfl, s2⟩ := h
    have x2 := x2.trans (.of s2)
    have tb2 := tb2.ext s2
    have hC := s2 _ _ hC
    have hO := s2 _ _ hO
    have hR := s2 _ _ hR
    have dc := dpAll_same s2 dc
    have dO := dpAll_same s2 dO
    have dz := dpAll_same s2 dz
    clear s2
    refine seq_mid (fun σ Hy => σ = [some (.ref c), some (.ref o), some (.int m), some (.ref t), some (.ref R), some (.int (lackingF cs os)), some (opV (lrF cs os (lackingF cs os))), v7, some (.int (os.map (·.2)).sum), none, none, none, none, none, ve, none] ∧ LamX.ExtN Hx Hy ∧ LamX.Tabs [(Pt, qShared)] Hy) (fun N hN => ?_) (fun σ Hy h => ?_)
    · refine ⟨_, rfl, _, rfl, c, m, xs, cs, rfl, SqL.of hC, dc, by omega, fun p hp => ⟨(kc p hp).2.2.1, (sc.2 p hp).2⟩, fun Ha La ua sa nLa fLa da => ?_⟩
      refine ⟨_, rfl, _, rfl, o, m, ys, os, rfl, SqL.of (sa _ _ hO), dpAll_same sa dO, by omega, fun p hp => ⟨(ko p hp).2.2.1, (so.2 p hp).2⟩, fun Hb Lb ub sb nLb fLb db => ?_⟩
      have fLa := sb _ _ fLa
      have da := dpAll_same sb da
      have tbb := tb2.ext (sa.trans sb)
      refine ⟨La, Lb, ua, ub, tmF cs m, tmF os m, rfl, SqL.of fLa, SqL.of fLb, da, db, (by unfold tmF; rw [List.length_map]; omega), (by unfold tmF; rw [List.length_map]; omega), tm_ok sc.2 m1 m2, tm_ok so.2 m1 m2, (fun l hl => ne_of_none fLa hl), (fun l hl => ne_of_none fLb hl), tbb, fun Hc tc Rc zc xc tbc _ htc _ _ _ => ?_⟩
      refine ⟨tc, _, 1, _, rfl, rfl, .inl (.inl htc), rfl, _, rfl, _, rfl, _, _, rfl, rfl, .inr ⟨by omega, by omega⟩, rfl, _, rfl, iteNS ?_ ?_⟩
      · rw [lack_tm sc.2 so.2 m1 m2]
      · exact hN _ _ ⟨rfl, (LamX.ExtN.of (sa.trans sb)).trans xc, tbc⟩
    obtain ⟨rfl, xx, tb2⟩ := h
    have x2 := x2.trans xx
    have hC := xx _ _ hC nt
    have hO := xx _ _ hO nt
    have hR := xx _ _ hR nt
    have dc := pcs_nl (Nl.ext xx) dc
    have dO := pcs_nl (Nl.ext xx) dO
    have dz := rws_nl (Nl.ext xx) dz
    clear xx
    refine seq_mid (fun σ Hx => σ = [some (.ref c), some (.ref o), some (.int m), some (.ref t), some (.ref R), some (.int (lackingF cs os)), some (opV (lrF cs os (lackingF cs os))), v7, some (.int (os.map (·.2)).sum), none, none, none, none, none, ve, none] ∧ Same Hy Hx) (fun N hN => ?_) (fun σ Hx h => ?_)
    · refine ⟨_, rfl, _, rfl, _, rfl, c, o, xs, ys, cs, os, _, .list ((sortR (rowsF cs os)).map rwD), rfl, SqL.of hC, SqL.of hO, dc, dO, by omega, by omega, .lst (SqL.of hR) dz, rows_wid (by omega), fun H7 s7 => ?_⟩
      rw [are_ok ROk]
      refine ⟨_, _, rfl, rfl, _, rfl, iteF ?_⟩
      by_cases h0 : lackingF cs os = 0
      · have e : lrF cs os (lackingF cs os) = none := if_pos h0
        rw [e] at hN ⊢
        refine ⟨_, rfl, rfl, _, rfl, rfl, rfl, _, rfl, iteNS ?_ (hN _ _ ⟨rfl, s7⟩)⟩
        rw [decide_eq_true (show V.int (lackingF cs os) = V.int 0 by rw [h0])]; rfl
      · obtain ⟨mx, e, em⟩ := lr_some h0 (sh_lr kc ko h0)
        rw [e] at hN ⊢
        refine ⟨_, rfl, rfl, _, rfl, rfl, rfl, _, rfl, iteNS ?_ (hN _ _ ⟨rfl, s7⟩)⟩
        rw [decide_eq_false (show ¬ V.int (lackingF cs os) = V.int 0 from fun z => h0 (V.int.inj z))]; rfl
    obtain ⟨rfl, s2⟩ := h
    have x2 := x2.trans (.of s2)
    have tb2 := tb2.ext s2
    have hC := s2 _ _ hC
    have hO := s2 _ _ hO
    have hR := s2 _ _ hR
    have dc := dpAll_same s2 dc
    have dO := dpAll_same s2 dO
    have dz := dpAll_same s2 dz
    clear s2
    refine seq_mid (fun σ Hy => ∃ v7 v9, σ = [some (.ref c), some (.ref o), some (.int m), some (.ref t), some (.ref R), some (.int (lackingF cs os)), some (opV (lrF cs os (lackingF cs os))), v7, some (.int (os.map (·.2)).sum), v9, none, none, none, none, ve, none] ∧ LamX.ExtN Hx Hy ∧ LamX.Tabs [(Pt, qShared)] Hy) (fun N hN => ?_) (fun σ Hy h => ?_)
    · refine ⟨_, rfl, _, _, rfl, rfl, _, rfl, ite2 (fun hl => ?_) (fun _ => hN _ _ ⟨_, _, rfl, LamX.ExtN.refl _, tb2⟩)⟩
      have hl : 0 < lackingF cs os := of_decide_eq_true hl
      refine ⟨_, rfl, _, rfl, _, _, rfl, rfl, (by show 2 ≤ sizeLine; decide), fun p np => ?_⟩
      have sp := same_upd (o := .tup [.int (lackingF cs os), .int (lackingF cs os - 1)]) np
      have fp : upd Hx p (.tup [.int (lackingF cs os), .int (lackingF cs os - 1)]) p = some (.tup [.int (lackingF cs os), .int (lackingF cs os - 1)]) := upd_same
      have hC := sp _ _ hC
      have hO := sp _ _ hO
      have dc := dpAll_same sp dc
      have dO := dpAll_same sp dO
      have tb3 := tb2.ext sp
      have xp := LamX.ExtN.of sp
      generalize upd Hx p (.tup [.int (lackingF cs os), .int (lackingF cs os - 1)]) = Hp at fp hC hO dc dO tb3 xp ⊢
      clear sp
      refine ⟨p, rfl, ⟨_, .inl (.inl fp)⟩, fun D nD => ?_⟩
      refine lc_it (walk_tup (xs := [.int (lackingF cs os), .int (lackingF cs os - 1)])) (fun i Hy => LamX.ExtN Hp Hy ∧ LamX.Tabs [(Pt, qShared)] Hy ∧ Hy D = some (.lst ((([0, 1] : List Int).take i).map V.int))) ⟨.of (same_upd nD), tb3.ext (same_upd nD), upd_same⟩ (fun i Hy _ h => .inl (.inl (h.1 _ _ fp ntt))) ?_ ?_
      · rintro i y Hy Hz hi ⟨xy, tby, hD⟩ ⟨rfl, gy⟩
        refine ⟨rfl, tYes_at ?_⟩
        rw [if_pos rfl]
        obtain ⟨mm, rfl, m0, m9, el⟩ : ∃ mm : Int, y = .int mm ∧ 0 ≤ mm ∧ mm ≤ 1000000000 ∧ (([0, 1] : List Int).take (i + 1)) = ([0, 1] : List Int).take i ++ [max 0 (lackingF cs os - mm)] := by
          have hb : lackingF cs os ≤ 1000000000 := by
            have h1 : 0 ≤ sumR (sortR (rowsF cs os)) := sumR_nn fun r hr => by have := (ROk.rows r hr).2.2.2; omega
            have h2 : (os.map (·.2)).sum ≤ 3 * (os.length : Int) := by
              rw [all_sum, ← sg_const]
              exact sg_le fun k hk => pcs_getD (p := fun p => p.2 ≤ 3) (fun p hp => (so.2 p hp).2) hk
            omega
          have h : i = 0 ∨ i = 1 := by
            have : i < 2 := hi
            omega
          rcases h with rfl | rfl
          · refine ⟨lackingF cs os, (Option.some.inj gy).symm, by omega, hb, ?_⟩
            rw [show max 0 (lackingF cs os - lackingF cs os) = 0 by omega]; rfl
          · refine ⟨lackingF cs os - 1, (Option.some.inj gy).symm, by omega, by omega, ?_⟩
            rw [show max 0 (lackingF cs os - (lackingF cs os - 1)) = 1 by omega]; rfl
        have hC := xy _ _ hC nt
        have hO := xy _ _ hO nt
        have dc := pcs_nl (Nl.ext xy) dc
        have dO := pcs_nl (Nl.ext xy) dO
        refine ⟨_, rfl, _, rfl, (by show 2 ≤ sizeLine; decide), fun u nu => ⟨(by show 1 ≤ sizeLine; decide), fun w nw => ?_⟩⟩
        have s1 := same_upd (o := .tup [.int 9, .int mm]) nu
        have fu : upd Hz u (.tup [.int 9, .int mm]) u = some (.tup [.int 9, .int mm]) := upd_same
        generalize upd Hz u (.tup [.int 9, .int mm]) = Hu at s1 fu nw ⊢
        have s2 := same_upd (o := .lst [.ref u]) nw
        have fu := s2 _ _ fu
        have fw : upd Hu w (.lst [.ref u]) w = some (.lst [.ref u]) := upd_same
        generalize upd Hu w (.lst [.ref u]) = Hw at s2 fu fw ⊢
        have s12 := s1.trans s2
        refine ⟨c, w, xs, [.ref u], rfl, rfl, s12 _ _ hC, fw, (by rw [sizeLine_eq]; show xs.length + 1 ≤ _; omega), fun e ne => ?_⟩
        have s3 := same_upd (o := .lst (xs ++ [.ref u])) ne
        have fe : upd Hw e (.lst (xs ++ [.ref u])) e = some (.lst (xs ++ [.ref u])) := upd_same
        have fu := s3 _ _ fu
        generalize upd Hw e (.lst (xs ++ [.ref u])) = He at s3 fu fe ⊢
        have s4 := s12.trans s3
        have hO := s4 _ _ hO
        have de : DpAll K He (xs ++ [.ref u]) ((cs ++ [((9, mm) : Pc)]).map pcD) := by
          rw [List.map_append]
          exact dpAll_app (dpAll_same s4 dc) (.cons (.tup (.inl (.inl fu)) (.cons (.int _) (.cons (.int _) .nil))) .nil)
        have kc2 : ∀ p ∈ cs ++ [((9, mm) : Pc)], PcOk p := fun p hp => (List.mem_append.mp hp).elim (kc p) fun h => by rw [List.mem_singleton.mp h]; exact ⟨show (1 : Int) ≤ 9 by decide, show (9 : Int) ≤ 9 by decide, m0, m9⟩
        refine ⟨_, rfl, e, o, xs ++ [.ref u], ys, cs ++ [(9, mm)], os, rfl, SqL.of fe, SqL.of hO, de, dpAll_same s4 dO, (by rw [List.length_append, List.length_singleton]; omega), by omega, kc2, ko, (fun l hl => ne_of_none fe hl), (fun l hl => ne_of_none hO hl), tby.ext s4, fun Hc tc Rc zc xc tbc _ htc _ _ _ => ?_⟩
        refine ⟨tc, _, 1, _, rfl, rfl, .inl (.inl htc), rfl, ?_⟩
        rw [lack_nine kc ko m0 m9]
        have x5 := (LamX.ExtN.of s4).trans xc
        have hD5 := x5 _ _ hD nt
        refine ⟨_, hD5, (by rw [List.length_map, List.length_take, sizeLine_eq]; show min i 2 < _; omega), ext_put (xy.trans x5) nD, ?_, ?_⟩
        · exact tabs_sm (S := [D]) (fun s hs => by rw [List.mem_singleton.mp hs]; exact ⟨_, hD5⟩) (sm_wr List.mem_cons_self) tbc
        · rw [el, List.map_append]; exact upd_same
      rintro Hy ⟨xy, tby, hD⟩
      simp only [gName, List.set]
      have hD : Hy D = some (.lst [.int 0, .int 1]) := hD
      refine ⟨_, rfl, (by show 2 ≤ sizeLine; decide), fun w nw => ?_⟩
      have s1 := same_upd (o := .lst [.int 0, .int 1]) nw
      refine ⟨.list (([0, 1] : List Int).map .int), .list (([0, 1] : List Int).map .int), .lst (SqL.of (s1 _ _ hD)) (dp_ints [0, 1]), .lst (SqL.of upd_same) (dp_ints [0, 1]), PySem.W.ke_shaped_ints _, PySem.W.ke_shaped_ints _, _, rfl, ?_⟩
      rw [eqv_ints]
      exact iteF (hN _ _ ⟨_, _, rfl, (xp.trans xy).trans (.of s1), tby.ext s1⟩)
    obtain ⟨v7, v9, rfl, xx, tb2⟩ := h
    have x2 := x2.trans xx
    have hC := xx _ _ hC nt
    have hO := xx _ _ hO nt
    have hR := xx _ _ hR nt
    have dc := pcs_nl (Nl.ext xx) dc
    have dO := pcs_nl (Nl.ext xx) dO
    have dz := rws_nl (Nl.ext xx) dz
    clear xx
    refine seq_mid (fun σ Hz => ∃ v7 va vb vc vd, σ = [some (.ref c), some (.ref o), some (.int m), some (.ref t), some (.ref R), some (.int (lackingF cs os)), some (opV (lrF cs os (lackingF cs os))), v7, some (.int (os.map (·.2)).sum), v9, va, vb, vc, vd, ve, none] ∧ Same Hy Hz) (fun N hN => ?_) (fun σ Hz h => ?_)
    · refine ⟨_, rfl, R, _, rfl, SqL.of hR, ?_⟩
      refine for_it (walk_enum (xs := zs)) (fun i σ Hz => ∃ v7 va vb vc vd, σ = [some (.ref c), some (.ref o), some (.int m), some (.ref t), some (.ref R), some (.int (lackingF cs os)), some (opV (lrF cs os (lackingF cs os))), v7, some (.int (os.map (·.2)).sum), v9, va, vb, vc, vd, ve, none] ∧ Same Hy Hz) ⟨_, _, _, _, _, rfl, Same.refl _⟩ (fun i σ Hz _ h => by obtain ⟨_, _, _, _, _, _, sz⟩ := h; exact SqL.of (sz _ _ hR)) ?_ ?_
      · rintro i y σ Hz Hw hi ⟨v7, va, vb, vc, vd, rfl, sz⟩ hy
        obtain ⟨u, x1, x2', rfl, nu, rfl, g1, g2⟩ := hy
        cases g1
        replace g2 : zs[i]? = some x2' := g2
        obtain ⟨ar, r, rfl, har, gr⟩ := rw_at (dpAll_same sz dz) g2
        have su := same_upd (o := .tup [.int (i : Nat), .ref ar]) nu
        have fu : upd Hz u (.tup [.int (i : Nat), .ref ar]) u = some (.tup [.int (i : Nat), .ref ar]) := upd_same
        have har := same_tup su har
        generalize upd Hz u (.tup [.int (i : Nat), .ref ar]) = Hw at su fu har ⊢
        have sz := sz.trans su
        have hC := sz _ _ hC
        have hO := sz _ _ hO
        have hR := sz _ _ hR
        have dc := dpAll_same sz dc
        have dO := dpAll_same sz dO
        have dz := dpAll_same sz dz
        obtain ⟨r1, r2, r3, r4⟩ := ROk.rows r (List.mem_of_getElem? gr)
        refine ⟨u, _, rfl, .inl (.inl fu), rfl, _, _, rfl, _, _, rfl, ⟨ar, _, rfl, har, rfl, _, _, rfl, _, _, rfl, _, _, rfl, rfl, ?_⟩⟩
        refine ⟨rfl, ?_⟩
        simp only [List.set]
        obtain ⟨vx, gx⟩ : ∃ v, xs[r.2.1]? = some v := ⟨_, List.getElem?_eq_getElem (by omega)⟩
        obtain ⟨b2, rfl, hb2, _⟩ := pcs_at dc gx
        have hcap := (pcs_getD kc r2).2.2.1
        have li : i < (sortR (rowsF cs os)).length := by omega
        refine ⟨_, rfl, _, rfl, _, rfl, R, _, rfl, SqL.of hR, fun p1 n1 => ?_⟩
        rw [show cutV zs none (some (i : Int)) = zs.take i from cut_head]
        have s1 := same_upd (o := .lst (zs.take i)) n1
        have f1 : upd Hw p1 (.lst (zs.take i)) p1 = some (.lst (zs.take i)) := upd_same
        generalize upd Hw p1 (.lst (zs.take i)) = H5 at s1 f1 ⊢
        refine ⟨_, rfl, _, rfl, _, rfl, _, rfl, c, xs, _, .ref b2, rfl, rfl, SqL.of (s1 _ _ hC), atI_nat gx, b2, _, 1, _, rfl, rfl, same_tup s1 hb2, rfl, _, _, rfl, rfl, (by show 3 ≤ sizeLine; decide), fun t3 n3 => ⟨(by show 1 ≤ sizeLine; decide), fun l3 m3 => ?_⟩⟩
        obtain ⟨cap, ecap⟩ : ∃ cap, cap = (cs.getD r.2.1 pc0).2 := ⟨_, rfl⟩
        have rc : rwD (r.1, r.2.1, cap + 1) = .tuple [.int r.1, .int r.2.1, .int (cap + 1)] := rfl
        dsimp only
        rw [← ecap]
        have m3 : upd H5 t3 (.tup [.int r.1, .int r.2.1, .int (cap + 1)]) l3 = none := by rw [ecap]; exact m3
        have s2 := same_upd (o := .tup [.int r.1, .int r.2.1, .int (cap + 1)]) n3
        have f2 : upd H5 t3 (.tup [.int r.1, .int r.2.1, .int (cap + 1)]) t3 = some _ := upd_same
        have f1 := s2 _ _ f1
        generalize upd H5 t3 (.tup [.int r.1, .int r.2.1, .int (cap + 1)]) = H6 at s2 f1 f2 m3 ⊢
        have s3 := same_upd (o := .lst [.ref t3]) m3
        have f3 : upd H6 l3 (.lst [.ref t3]) l3 = some _ := upd_same
        have f1 := s3 _ _ f1
        have f2 := s3 _ _ f2
        generalize upd H6 l3 (.lst [.ref t3]) = H7 at s3 f1 f2 f3 ⊢
        have sw := (s1.trans s2).trans s3
        refine ⟨p1, l3, _, _, rfl, rfl, f1, f3, (by rw [sizeLine_eq]; simp only [List.length_append, List.length_take, List.length_singleton]; omega), fun p2 n2 => ?_⟩
        have s4 := same_upd (o := .lst (zs.take i ++ [.ref t3])) n2
        have f4 : upd H7 p2 (.lst (zs.take i ++ [.ref t3])) p2 = some _ := upd_same
        have f2 := s4 _ _ f2
        generalize upd H7 p2 (.lst (zs.take i ++ [.ref t3])) = H8 at s4 f4 f2 ⊢
        have sw := sw.trans s4
        refine ⟨_, rfl, _, rfl, _, _, rfl, rfl, _, rfl, R, _, rfl, SqL.of (sw _ _ hR), fun p4 n4 => ?_⟩
        rw [show cutV zs (some ((i : Int) + 1)) none = zs.drop (i + 1) from cut_tail]
        have s5 := same_upd (o := .lst (zs.drop (i + 1))) n4
        have f5 : upd H8 p4 (.lst (zs.drop (i + 1))) p4 = some _ := upd_same
        have f2 := s5 _ _ f2
        have f4 := s5 _ _ f4
        generalize upd H8 p4 (.lst (zs.drop (i + 1))) = H9 at s5 f5 f4 f2 ⊢
        have sw := sw.trans s5
        refine ⟨p2, p4, _, _, rfl, rfl, f4, f5, (by rw [sizeLine_eq]; simp only [List.length_append, List.length_take, List.length_drop, List.length_singleton]; omega), fun p5 n5 => ?_⟩
        have s6 := same_upd (o := .lst (zs.take i ++ [.ref t3] ++ zs.drop (i + 1))) n5
        have f6 : upd H9 p5 (.lst (zs.take i ++ [.ref t3] ++ zs.drop (i + 1))) p5 = some _ := upd_same
        have f2 := s6 _ _ f2
        generalize upd H9 p5 (.lst (zs.take i ++ [.ref t3] ++ zs.drop (i + 1))) = HA at s6 f6 f2 ⊢
        have sw := sw.trans s6
        have dz := dpAll_same sw dz
        have dn : DpAll K HA (zs.take i ++ [.ref t3] ++ zs.drop (i + 1)) (((sortR (rowsF cs os)).take i ++ [(r.1, r.2.1, cap + 1)] ++ (sortR (rowsF cs os)).drop (i + 1)).map rwD) := by
          rw [List.map_append, List.map_append, List.map_take, List.map_drop]
          exact dpAll_app' (dpAll_app' (dpAll_take i dz) (.cons (.tup (.inl (.inl f2)) (.cons (.int _) (.cons (.int _) (.cons (.int _) .nil)))) .nil)) (dpAll_drop (i + 1) dz)
        unfold gName
        simp only [List.set]
        refine ⟨_, rfl, _, rfl, _, rfl, c, o, xs, ys, cs, os, _, .list (((sortR (rowsF cs os)).take i ++ [(r.1, r.2.1, cap + 1)] ++ (sortR (rowsF cs os)).drop (i + 1)).map rwD), rfl, SqL.of (sw _ _ hC), SqL.of (sw _ _ hO), dpAll_same sw dc, dpAll_same sw dO, by omega, by omega, .lst (SqL.of f6) dn, rows_wid (by simp only [List.length_append, List.length_take, List.length_drop, List.length_singleton]; omega), fun HB s7 => ?_⟩
        rw [areD_no (r := (r.1, r.2.1, cap + 1)) ?_ ?_ ?_ ?_]
        · exact ⟨_, _, rfl, rfl, _, rfl, iteF ⟨_, _, _, _, _, rfl, sz.trans (sw.trans s7)⟩⟩
        · intro x hx
          have h0 : 0 ≤ cap := by rw [ecap]; exact hcap
          rcases List.mem_append.mp hx with hx | hx
          · rcases List.mem_append.mp hx with hx | hx
            · have := (ROk.rows x (List.mem_of_mem_take hx)).2.2; omega
            · rw [List.mem_singleton.mp hx]; show 0 ≤ cap + 1; omega
          · have := (ROk.rows x (List.mem_of_mem_drop hx)).2.2; omega
        · exact List.mem_append.mpr (.inl (List.mem_append.mpr (.inr List.mem_cons_self)))
        · exact r2
        · show (cs.getD r.2.1 pc0).2 < cap + 1
          omega
      · rintro σ Hz ⟨v7, va, vb, vc, vd, rfl, sz⟩
        exact hN _ _ ⟨_, _, _, _, _, rfl, sz⟩
    obtain ⟨v7, va, vb, vc, vd, rfl, s2⟩ := h
    exact ⟨_, rfl, q _ (x2.trans (.of s2)) (tb2.ext s2)⟩

end
end Pot




namespace Pot
open PySem PySem.Spec PyProof.Rows L2
section
variable {P : Program} {w : World} {K : PySem.W.Frag} {mg : Str → Option Value} {base : Heap}

theorem kd_nl {H H' : Hp} (s : Nl H H') : ∀ {rs : List Kd} {xs : List V}, DpAll K H xs (rs.map kdD) → DpAll K H' xs (rs.map kdD)
  | [], _, h => by
    cases h
    exact .nil
  | p :: ps, _, h => by
    cases h with
    | cons a r =>
      obtain ⟨t, ts, rfl, ht, dts⟩ := dp_tup a
      obtain ⟨x, y, z, rfl, d1, d2, d3⟩ := dp_three dts
      rw [dp_str d1, dp_int d2, dp_int d3] at ht
      exact .cons (.tup (sqT_nl s ht) (.cons (.str _) (.cons (.int _) (.cons (.int _) .nil)))) (kd_nl s r)
theorem wn_nl {H H' : Hp} (s : Nl H H') : ∀ {rs : List Wn} {xs : List V}, DpAll K H xs (rs.map wnD) → DpAll K H' xs (rs.map wnD)
  | [], _, h => by
    cases h
    exact .nil
  | p :: ps, _, h => by
    cases h with
    | cons a r =>
      obtain ⟨t, ts, rfl, ht, dts⟩ := dp_tup a
      obtain ⟨x, y, z, rfl, d1, d2, d3⟩ := dp_three dts
      rw [dp_str d1, dp_str d2, dp_int d3] at ht
      exact .cons (.tup (sqT_nl s ht) (.cons (.str _) (.cons (.str _) (.cons (.int _) .nil)))) (wn_nl s r)
def Nm8 (z : Str) : Prop := Wd 8 z
def KdOk (k : Kd) : Prop := Nm8 k.1 ∧ 1 ≤ k.2.1 ∧ k.2.1 ≤ 9 ∧ k.2.2 = 1
def WnOk (ks : List Kd) (w : Wn) : Prop := w.1 ∈ ks.map (·.1) ∧ Nm8 w.1 ∧ Nm8 w.2.1 ∧ 0 ≤ w.2.2 ∧ w.2.2 ≤ 3
theorem bds_map {α : Type} {n m C D W : Nat} {f : α → PyData} : ∀ {l : List α}, (∀ x ∈ l, Bd n m C D W (f x)) → Bds n m ((C + 2) * l.length) D W (l.map f)
  | [], _ => Bds.nil
  | x :: l, h => by
    have h1 := Bds.one (h x List.mem_cons_self)
    have h2 := bds_map (l := l) fun y hy => h y (List.mem_cons_of_mem _ hy)
    exact (h1.app h2).mono (Nat.le_refl _) (Nat.le_refl _) (by rw [List.length_cons, Nat.mul_succ]; omega) (Nat.le_refl _) (Nat.le_refl _)
theorem nm8_ascii {z : Str} (h : Nm8 z) : ∀ c ∈ z.cps.toList, c < 128 := fun c hc => by have := (h.2 c hc).2; omega
def bothK (kz : List Kd) (ws : List Wn) : PyData := .list [.list (kz.map kdD), .list (ws.map wnD)]
theorem bd_bothK {kz : List Kd} {ws : List Wn} (hk : ∀ k ∈ kz, KdOk k) (hw : ∀ w ∈ ws, WnOk kz w) (lk : kz.length ≤ 20) (lw : ws.length ≤ 20) : Bd 9 (10 ^ 9) 300000 3 400 (bothK kz ws) := by
  have bi : ∀ {i : Int}, i.natAbs ≤ 10 ^ 9 → Bd 9 (10 ^ 9) 1921 0 400 (.int i) := fun h => (bd_int h).mono (Nat.le_refl _) (Nat.le_refl _) (Nat.le_refl _) (Nat.le_refl _) (Nat.zero_le _)
  have bs : ∀ {z : Str}, Nm8 z → Bd 9 (10 ^ 9) 92 0 400 (.str z) := fun hn => (bd_str (Nat.le_trans hn.1 (by decide)) (by decide) (nm8_ascii hn)).mono (Nat.le_refl _) (Nat.le_refl _) (by decide) (Nat.le_refl _) (Nat.zero_le _)
  have kd := (bds_map (f := kdD) (C := 3943) (D := 1) (l := kz) fun k hk2 => by
    obtain ⟨h0, h1, h2, h3⟩ := hk k hk2
    exact (((Bds.one (bs h0)).app ((Bds.one (bi (i := k.2.1) (by omega))).app (Bds.one (bi (i := k.2.2) (by omega))))).tuple (by show 3 ≤ 400; decide)).mono (Nat.le_refl _) (Nat.le_refl _) (by decide) (Nat.le_refl _) (Nat.le_refl _)).list (show (kz.map kdD).length ≤ 400 by rw [List.length_map]; omega)
  have wn := (bds_map (f := wnD) (C := 2114) (D := 1) (l := ws) fun w hw2 => by
    obtain ⟨h0, h1, h2, h3, h4⟩ := hw w hw2
    exact (((Bds.one (bs h1)).app ((Bds.one (bs h2)).app (Bds.one (bi (i := w.2.2) (by omega))))).tuple (by show 3 ≤ 400; decide)).mono (Nat.le_refl _) (Nat.le_refl _) (by decide) (Nat.le_refl _) (Nat.le_refl _)).list (show (ws.map wnD).length ≤ 400 by rw [List.length_map]; omega)
  exact (((Bds.one kd).app (Bds.one wn)).list (by show 2 ≤ 400; decide)).mono (Nat.le_refl _) (Nat.le_refl _) (by have := Nat.mul_le_mul_left 3945 lk; have := Nat.mul_le_mul_left 2116 lw; omega) (by decide) (Nat.le_refl _)
theorem pcs_gd {ps : List Pc} (h : ∀ p ∈ ps, PcOk p) : gd 1000000000 (.list (ps.map pcD)) := gdAll_iff.mpr fun d hd => by
  obtain ⟨p, hp, rfl⟩ := List.mem_map.mp hd
  obtain ⟨h1, h2, h3, h4⟩ := h p hp
  exact ⟨by show p.1.natAbs ≤ _; omega, by show p.2.natAbs ≤ _; omega, trivial⟩
theorem pcs_depth : ∀ (ps : List Pc), PyData.depth (.list (ps.map pcD)) ≤ 3 := fun ps => by
  show PyData.depthAll (ps.map pcD) + 1 ≤ 3
  have : PyData.depthAll (ps.map pcD) ≤ 2 := depthAll_iff.mpr fun d hd => by
    obtain ⟨p, hp, rfl⟩ := List.mem_map.mp hd
    simp [pcD, PyData.depth, PyData.depthAll]
  omega
theorem pcs_shaped {ps : List Pc} (h : ∀ p ∈ ps, PcOk p) : SeqAt.shaped (.list (ps.map pcD)) = true := gd_shaped (pcs_gd h) (Nat.le_trans (pcs_depth ps) (by decide))
theorem pcs_refl {ps : List Pc} (h : ∀ p ∈ ps, PcOk p) : PyData.eqv (.list (ps.map pcD)) (.list (ps.map pcD)) = true := SeqAt.eqv_refl _ (gd_lay _ (pcs_gd h))
theorem due_ok {kz : List Kd} {ws : List Wn} {zs : List Str} (hk : ∀ k ∈ kz, KdOk k) (hw : ∀ w ∈ ws, WnOk kz w) : ∀ p ∈ dueG kz ws zs, PcOk p ∧ p.2 ≤ 3 := fun p hp => by
  obtain ⟨w, hw2, rfl⟩ := List.mem_map.mp hp
  obtain ⟨h0, _, _, h1, h2⟩ := hw w (List.mem_filter.mp hw2).1
  obtain ⟨_, k, hk2, e⟩ := rk_some h0
  obtain ⟨_, h3, h4, _⟩ := hk k hk2
  exact ⟨⟨by show 1 ≤ rkI kz w.1; omega, by show rkI kz w.1 ≤ 9; omega, h1, by show w.2.2 ≤ _; omega⟩, h2⟩
theorem due_sub {kz : List Kd} {ws : List Wn} {zs ys : List Str} (h : ∀ z ∈ zs, z ∈ ys) (hw : ∀ w ∈ ws, 0 ≤ w.2.2) (r : Int) : abvF (dueG kz ws zs) r ≤ abvF (dueG kz ws ys) r := by
  induction ws with
  | nil => exact Int.le_refl _
  | cons w ws ih =>
    have ih := ih fun x hx => hw x (List.mem_cons_of_mem w hx)
    have w0 := hw w List.mem_cons_self
    have one : ∀ zs : List Str, abvF (dueG kz (w :: ws) zs) r = (if w.2.1 ∈ zs then (if r ≤ rkI kz w.1 then w.2.2 else 0) else 0) + abvF (dueG kz ws zs) r := fun zs => by
      unfold dueG
      by_cases m : w.2.1 ∈ zs
      · rw [if_pos m, List.filter_cons_of_pos (p := fun w : Wn => decide (w.2.1 ∈ zs)) (decide_eq_true m), List.map_cons, abv_cons]
      · rw [if_neg m, List.filter_cons_of_neg (p := fun w : Wn => decide (w.2.1 ∈ zs)) (by simpa using m), Int.zero_add]
    rw [one zs, one ys]
    by_cases m : w.2.1 ∈ zs
    · rw [if_pos m, if_pos (h _ m)]; omega
    · rw [if_neg m]
      split
      · split <;> omega
      · omega
def lastF (cs : List Pc) : Int := (cs.getLast?.getD pc0).2
def KpB (b : Addr) (H H' : Hp) : Prop := ∀ x o, x ≠ b → H x = some o → (∀ ps, o ≠ .tbl ps) → H' x = some o
structure St8 (Pt b : Addr) (H0 : Hp) (n : Nat) (H : Hp) : Prop where
  B : Bq H b n
  b0 : Bx H0 b
  x : KpB b H0 H
  tb : LamX.Tabs [(Pt, qShared)] H
theorem bq_ext {H H2 : Hp} {b : Addr} {n : Nat} (x : LamX.ExtN H H2) (B : Bq H b n) : Bq H2 b n := by
  obtain ⟨p, q, r, e, h⟩ := B
  exact ⟨p, q, r, x _ _ e (fun ps z => by cases z), h⟩
section
variable {Pt b D x : Addr} {H0 H H1 H' : Hp} {n m : Nat} {ls zs : List V} {o : HO}
theorem St8.start (B : Bq H b n) (t : LamX.Tabs [(Pt, qShared)] H) : St8 Pt b H n H := ⟨B, B.bx, fun _ _ _ e _ => e, t⟩
theorem St8.draw (S : St8 Pt b H0 n H) (B : Bq H' b m) (s : Sm [b] H H') : St8 Pt b H0 m H' := by
  refine ⟨B, S.b0, fun x o ne e nt => sm_at s (by simp [ne]) (S.x x o ne e nt), tabs_sm (fun z hz => ?_) s S.tb⟩
  rw [List.mem_singleton.mp hz]
  obtain ⟨_, _, _, e⟩ := S.B.bx
  exact ⟨_, e⟩
theorem St8.ext (S : St8 Pt b H0 n H) (e : LamX.ExtN H H') (t : LamX.Tabs [(Pt, qShared)] H') : St8 Pt b H0 n H' := ⟨bq_ext e S.B, S.b0, fun x o ne h nt => e x o (S.x x o ne h nt) nt, t⟩
theorem St8.same (S : St8 Pt b H0 n H) (s : Same H H') : St8 Pt b H0 n H' := S.ext (.of s) (S.tb.ext s)
theorem St8.put (S : St8 Pt b H0 n H) (h : H D = none) : St8 Pt b H0 n (upd H D o) := S.same (same_upd h)
theorem St8.wr (S : St8 Pt b H0 n H) (h : H D = some (.lst ls)) (n0 : H0 D = none) (ne : D ≠ b) : St8 Pt b H0 n (upd H D (.lst zs)) := by
  refine ⟨S.B.wr ne, S.b0, fun x o nx e nt => ?_, tabs_sm (S := [D]) (fun z hz => ?_) (sm_wr (List.mem_singleton.mpr rfl)) S.tb⟩
  · have : x ≠ D := fun z => by rw [z, n0] at e; cases e
    rw [upd_ne this]; exact S.x x o nx e nt
  · rw [List.mem_singleton.mp hz]; exact ⟨_, h⟩
theorem St8.mono (S : St8 Pt b H0 n H) (h : n ≤ m) : St8 Pt b H0 m H := ⟨S.B.mono h, S.b0, S.x, S.tb⟩
theorem St8.nl (S : St8 Pt b H0 n H) : Nl H0 H := fun x o e n1 n2 => by
  refine S.x x o (fun z => ?_) e n2
  obtain ⟨_, _, _, e2⟩ := S.b0
  rw [z, e2] at e
  exact n1 _ (Option.some.inj e).symm
theorem St8.at (S : St8 Pt b H0 n H) (ne : D ≠ b) (h : H0 D = some (.lst ls)) : H D = some (.lst ls) := S.x D _ ne h fun _ z => by cases z
theorem St8.tup (S : St8 Pt b H0 n H) (h : H0 D = some (.tup ls)) : H D = some (.tup ls) := S.nl D _ h (fun _ z => by cases z) fun _ z => by cases z
theorem St8.trans (S : St8 Pt b H0 n H1) (T : St8 Pt b H1 m H) : St8 Pt b H0 m H := ⟨T.B, S.b0, fun x o ne e nt => T.x x o ne (S.x x o ne e nt) nt, T.tb⟩
theorem St8.ne (S : St8 Pt b H0 n H) (h : H D = none) : D ≠ b := S.B.ne h
theorem St8.free (S : St8 Pt b H0 n H) (h : H D = none) (t : ∀ ps, H0 D ≠ some (.tbl ps)) : H0 D = none := by
  cases e : H0 D with
  | none => rfl
  | some o =>
    have := S.x D o (S.ne h) e fun ps z => t ps (by rw [e, z])
    rw [h] at this; cases this
end
def grpF (cl : List Str) : List (List Str) := (cl.map fun z => [z]) ++ [cl]
def GrpAt (b : Addr) (H : Hp) (v : V) (zs : List Str) : Prop := ∃ g, v = .ref g ∧ g ≠ b ∧ H g = some (.lst (zs.map V.str))
def sumK (ks : List Kd) (ws : List Wn) (zs : List Str) : Int := ((dueG ks ws zs).map (·.2)).sum
theorem atI_lst {α : Type} {xs : List α} {v : α} (h : xs.getLast? = some v) : atI xs (-1) = some v := by
  have n0 : 0 < xs.length := List.length_pos_iff.mpr fun e => by rw [e] at h; cases h
  rw [List.getLast?_eq_getElem?] at h
  unfold atI ixN
  rw [if_neg (by decide), if_pos (by omega)]
  show xs[(-1 + (xs.length : Int)).toNat]? = _
  rw [show (-1 + (xs.length : Int)).toNat = xs.length - 1 by omega]; exact h
theorem last_at {H : Hp} {xs : List V} {cs : List Pc} (dc : DpAll K H xs (cs.map pcD)) (ne : cs ≠ []) : ∃ a r, atI xs (-1) = some (.ref a) ∧ SqT K H a [.int r, .int (lastF cs)] := by
  have n0 : 0 < cs.length := List.length_pos_iff.mpr ne
  have lx : xs.length = cs.length := dpAll_map_len dc
  have g : xs[cs.length - 1]? = some xs[cs.length - 1] := List.getElem?_eq_getElem (by omega)
  obtain ⟨a, e, ha, _⟩ := pcs_at dc g
  refine ⟨a, (cs.getD (cs.length - 1) pc0).1, atI_lst (by rw [List.getLast?_eq_getElem?, lx, g, e]), ?_⟩
  unfold lastF
  rw [List.getLast?_eq_getElem?, ← List.getD_eq_getElem?_getD]
  exact ha
theorem grp_last (cl : List Str) (f : List Str → V) : atI ((grpF cl).map f) (-1) = some (f cl) := atI_lst (by unfold grpF; rw [List.map_append]; simp)
theorem now_max {cs : List Pc} {ks : List Kd} {ws : List Wn} {cl : List Str} {m : Int} (hc : ∀ p ∈ cs, PcOk p) (hd : ∀ zs : List Str, ∀ p ∈ dueG ks ws zs, PcOk p) (hw : ∀ w ∈ ws, 0 ≤ w.2.2)
    (hm : m ∈ (grpF cl).map fun zs => lackingF cs (dueG ks ws zs)) (h : ∀ y ∈ (grpF cl).map (fun zs => lackingF cs (dueG ks ws zs)), y ≤ m) : m = lackingF cs (dueG ks ws cl) := by
  have a : lackingF cs (dueG ks ws cl) ≤ m := h _ (List.mem_map.mpr ⟨cl, by unfold grpF; simp, rfl⟩)
  obtain ⟨zs, hz, rfl⟩ := List.mem_map.mp hm
  have b : lackingF cs (dueG ks ws zs) ≤ lackingF cs (dueG ks ws cl) := by
    refine lack_sub hc (hd _) (hd _) fun r => due_sub (fun z h => ?_) hw r
    unfold grpF at hz
    rcases List.mem_append.mp hz with k | k
    · obtain ⟨y, hy, rfl⟩ := List.mem_map.mp k
      rw [List.mem_singleton.mp h]; exact hy
    · rw [← List.mem_singleton.mp k]; exact h
  omega
theorem paired_at {α β : Type} {F : α → β → Prop} : ∀ {l : List α} {m : List β}, Paired F l m → ∀ {i : Nat} {a : α}, l[i]? = some a → ∃ c, m[i]? = some c ∧ F a c
  | _, _, .nil, i, a, h => by simp at h
  | _, _, .cons f t, 0, a, h => by
    simp at h; subst h
    exact ⟨_, rfl, f⟩
  | _, _, .cons f t, i + 1, a, h => by
    simp at h
    exact paired_at t h
theorem ite_te {c : Bool} {ta tb : TE} {σ : L2.St} {H : Hp} {Q0 : VK} (G : V → Hp → Prop) (hx : ∀ Q1 : VK, (∀ x H, G x H → Q1 x H) → c = true → ta σ H Q1) (hy : ∀ Q1 : VK, (∀ x H, G x H → Q1 x H) → c = false → tb σ H Q1) (k : ∀ x H, G x H → Q0 x H) : if c = true then ta σ H Q0 else tb σ H Q0 := by
  cases c with
  | false => rw [if_neg Bool.false_ne_true]; exact hy Q0 k rfl
  | true => rw [if_pos rfl]; exact hx Q0 k rfl
def RkOk (rs : List Int) : Prop := 0 < rs.length ∧ rs.length ≤ 9 ∧ ∀ r ∈ rs, 1 ≤ r ∧ r ≤ 9
abbrev s__law_right : Stmt := topS 22
def n__law_right : List Str := ["_law_state", "_law_some", "_law_ranks", "_law_kinds", "_law_colours", "_law_wanted", "_law_turn", "_law_kind", "_law_much", "_law_crews", "_law_kept", "_law_groups", "_law_group", "_law_lacks", "_law_now", "_law_last", "_law_before", "_law_orders_here", "_law_lacking", "_law_sign", "_law_colour", "_law_row"]
theorem sc__law_right : FnScope n__law_right ["_law_state"] (defScope s__law_right) := ⟨rfl, rfl, rfl, by decide +kernel, rfl, by decide +kernel, by decide +kernel⟩
def spRight8 (Pt : Addr) : Sp := fun vs H Q _ => ∃ b, vs = [.ref b] ∧ Bq H b 0 ∧ LamX.Tabs [(Pt, qShared)] H ∧ ∀ H' n, St8 Pt b H n H' → Q (.bl true) H'
theorem wd_kind : Wd 4 (Str.ofString "kind") := ⟨by decide, by decide⟩
set_option maxHeartbeats 4000000 in
theorem ok_right {f Pt : Addr} {fd : FuncData} {k : Nat} (F : Fun K "_law_right" "_law_right" s__law_right f fd) (T : Txt mg) (c__law_take : Cl P w K mg base (k + 1) "_law_take" spTake) (c__law_orders : Cl P w K mg base (k + 1) "_law_orders" (spOrders K)) (c_wanted_of : Cl P w K mg base (k + 1) "wanted_of" (spWanted K)) (c__law_colour_right : Cl P w K mg base (k + 8) "_law_colour_right" (spCol K Pt)) : FnG P w K mg base (k + 9) f fd ["_law_state"] (spRight8 Pt) := by
  refine okG F sc__law_right (fun vs H Q E h => ?_) (fun cdv A outer s H vs Q gd hr h => ?_)
  · obtain ⟨b, rfl, _⟩ := h
    rfl
  · obtain ⟨b, rfl, B, tb, q⟩ := h
    have nd := sc__law_right.nd
    have hu64 := hr.units
    /- 0 _law_state, 1 _law_some, 2 _law_ranks, 3 _law_kinds, 4 _law_colours, 5 _law_wanted, 6 _law_turn, 7 _law_kind, 8 _law_much, 9 _law_crews, 10 _law_kept, 11 _law_groups, 12 _law_group, 13 _law_lacks, 14 _law_now, 15 _law_last, 16 _law_before, 17 _law_orders_here, 18 _law_lacking, 19 _law_sign, 20 _law_colour, 21 _law_row -/
    refine ⟨_, (pss_cons (ps_set (i := 1) nd rfl (.inl rfl) (pe_lst (pa_cons (pe_op op_add pe_int (pe_cl c__law_take hr (by omega) (by rfl) (pa_cons (pv 0) (pa_cons pe_int pa_nil)))) (pa_cons (pe_op op_add pe_int (pe_cl c__law_take hr (by omega) (by rfl) (pa_cons (pv 0) (pa_cons pe_int pa_nil)))) (pa_cons pe_int pa_nil)))))
      (pss_cons (ps_set (i := 2) nd rfl (.inr rfl) (pe_ix (kx_list (K := K)) (pe_lst (pa_cons (pe_listRg rfl (by rfl) T.list (prg_2 (by rfl) T.range pe_int pe_int)) (pa_cons (pv 1) pa_nil))) (pe_cl c__law_take hr (by omega) (by rfl) (pa_cons (pv 0) (pa_cons pe_int pa_nil))) (fun _ _ => rfl)))
      (pss_cons (ps_set (i := 3) nd rfl (.inr rfl) (pe_lc (own := [("_law_sign", 19)]) rfl nd (pi_str (pe_slice sl_str pe_str po_none (po_some (pe_op op_add pe_int (pe_cl c__law_take hr (by omega) (by rfl) (pa_cons (pv 0) (pa_cons pe_int pa_nil))))))) (blkOk_by (N := n__law_right) (sc := defScope s__law_right) (by decide +kernel)) (fun _ _ _ _ _ => (pg_name (i := 19) nd rfl (.inl rfl))) (fun _ _ _ _ _ => pts_nil) (fun _ _ _ _ _ => (pe_tup (pa_cons (pe_op op_add_str pe_str (pv 19)) (pa_cons (pe_ix (kx_list (K := K)) (pv 2) (pe_cl c__law_take hr (by omega) (by rfl) (pa_cons (pv 0) (pa_cons (pe_callB (kc_len (K := K)) (by rfl) T.len PySem.boot_len (pa_cons (pv 2) pa_nil)) pa_nil))) (fun _ _ => rfl)) (pa_cons pe_int pa_nil)))))))
      (pss_cons (ps_asg (pe_tup (pa_cons (pe_slice (kl_list (K := K)) (pe_lst (pa_cons pe_str (pa_cons pe_str (pa_cons pe_str (pa_cons pe_str pa_nil))))) po_none (po_some (pe_op op_add pe_int (pe_cl c__law_take hr (by omega) (by rfl) (pa_cons (pv 0) (pa_cons pe_int pa_nil)))))) (pa_cons (pe_lst pa_nil) pa_nil))) (kg_tup (K := K) (n := 2) (pgs_cons (pg_name (i := 4) nd rfl (.inl rfl)) (pgs_cons (pg_name (i := 5) nd rfl (.inr rfl)) pgs_nil))))
      (pss_cons (ps_for PassesOwn.never rfl (pi_range1 (by rfl) T.range (pa_cons (pe_cl c__law_take hr (by omega) (by rfl) (pa_cons (pv 0) (pa_cons pe_int pa_nil))) pa_nil)) (pg_name (i := 6) nd rfl (.inl rfl))
          (pss_cons (ps_set (i := 7) nd rfl (.inl rfl) (pe_ix (kx_tup (K := K)) (pe_ix (kx_list (K := K)) (pv 3) (pe_cl c__law_take hr (by omega) (by rfl) (pa_cons (pv 0) (pa_cons (pe_callB (kc_len (K := K)) (by rfl) T.len PySem.boot_len (pa_cons (pv 3) pa_nil)) pa_nil))) (fun _ _ => rfl)) pe_int (fun _ _ => rfl)))
          (pss_one (ps_expr (pe_bm PySem.F.plainAttrs_list PySem.F.slot_list_append PySem.F.type_list_append mt_append (pv 5) (pa_cons (pe_tup (pa_cons (pv 7) (pa_cons (pe_ix (kx_list (K := K)) (pv 4) (pe_cl c__law_take hr (by omega) (by rfl) (pa_cons (pv 0) (pa_cons (pe_callB (kc_len (K := K)) (by rfl) T.len PySem.boot_len (pa_cons (pv 4) pa_nil)) pa_nil))) (fun _ _ => rfl)) (pa_cons (pe_cl c__law_take hr (by omega) (by rfl) (pa_cons (pv 0) (pa_cons pe_int pa_nil))) pa_nil)))) pa_nil))))))
      (pss_cons (ps_par3 (i := 8) (j := 9) (l := 10) rfl nd rfl rfl rfl (by decide) (by decide) (by decide) rfl rfl rfl (pa_cons (pe_op op_add pe_int (pe_op op_mul (pe_cl c__law_take hr (by omega) (by rfl) (pa_cons (pv 0) (pa_cons (pe_op op_pow pe_int pe_int) pa_nil))) (pe_cl c__law_take hr (by omega) (by rfl) (pa_cons (pv 0) (pa_cons pe_int pa_nil))))) (pa_cons (pe_lst pa_nil) (pa_cons (pe_callB (kc_repr (K := K) gd hu64) (by rfl) T.repr (by decide +kernel) (pa_cons (pe_lst (pa_cons (pv 3) (pa_cons (pv 5) pa_nil))) pa_nil)) pa_nil))) rfl)
      (pss_cons (ps_set (i := 11) nd rfl (.inl rfl) (pe_op op_cat (pe_lc (own := [("_law_colour", 20)]) rfl nd (ki_list (K := K) (pv 4)) (blkOk_by (N := n__law_right) (sc := defScope s__law_right) (by decide +kernel)) (fun _ _ _ _ _ => (pg_name (i := 20) nd rfl (.inl rfl))) (fun _ _ _ _ _ => pts_nil) (fun _ _ _ _ _ => (pe_lst (pa_cons (pv 20) pa_nil)))) (pe_lst (pa_cons (pv 4) pa_nil))))
      (pss_cons (ps_setLc (i := 13) (own := [("_law_group", 12)]) rfl nd rfl rfl (sw_true rfl rfl rfl (by decide +kernel)) (ki_list (K := K) (pv 11)) (blkOk_by (N := n__law_right) (sc := defScope s__law_right) (by decide +kernel)) (fun _ _ _ _ _ => (pg_name (i := 12) nd rfl (.inl rfl))) (fun _ _ _ _ _ => pts_nil) (fun _ _ _ _ _ => (pe_callB (kc_sum (K := K)) (by rfl) T.sum (by decide +kernel) (pa_cons (pe_lc (own := [("_law_row", 21)]) rfl nd (ki_list (K := K) (pe_cl c__law_orders hr (by omega) (by rfl) (pa_cons (pv 3) (pa_cons (pv 5) (pa_cons (pv 12) pa_nil))))) (blkOk_by (N := n__law_right) (sc := relS ({ kind := PySem.ScopeKind.function, names := [ (PySem.Str.ofString ".0", PySem.NameKind.local), (PySem.Str.ofString "_law_group", PySem.NameKind.local), (PySem.Str.ofString "sum", PySem.NameKind.globalImplicit), (PySem.Str.ofString "_law_orders", PySem.NameKind.globalImplicit), (PySem.Str.ofString "_law_kinds", PySem.NameKind.free), (PySem.Str.ofString "_law_wanted", PySem.NameKind.free)], isGenerator := false, isCoroutine := false, more := [] : PySem.Scope }) (defScope s__law_right)) (by decide +kernel)) (fun _ _ _ _ _ => (pg_name (i := 21) nd rfl (.inl rfl))) (fun _ _ _ _ _ => pts_nil) (fun _ _ _ _ _ => (pe_ix (kx_tup (K := K)) (pv 21) pe_int (fun _ _ => rfl)))) pa_nil))))
      (pss_cons (ps_for PassesOwn.never rfl (pi_range1 (by rfl) T.range (pa_cons (pe_op op_add pe_int (pe_cl c__law_take hr (by omega) (by rfl) (pa_cons (pv 0) (pa_cons pe_int pa_nil)))) pa_nil)) (pg_name (i := 6) nd rfl (.inl rfl))
          (pss_cons (ps_par (i := 14) (j := 15) rfl nd rfl rfl (by decide) rfl rfl (pa_cons (pe_lst pa_nil) (pa_cons (pe_ifExp (pt_cmpR (ko_ne (K := K) hu64) (pv 9) (pe_lst pa_nil) (nomark _)) (pe_ix (kx_tup (K := K)) (pe_ix (kx_list (K := K)) (pv 9) (pe_un un_neg pe_int) (fun _ _ => rfl)) pe_int (fun _ _ => rfl)) pe_int) pa_nil)) rfl)
          (pss_cons (ps_for PassesOwn.never rfl (ki_zip (K := K) (by rfl) T.zip (pa_cons (pv 11) (pa_cons (pv 13) pa_nil))) (kg_tup (K := K) (n := 2) (pgs_cons (pg_name (i := 12) nd rfl (.inl rfl)) (pgs_cons (pg_name (i := 16) nd rfl (.inl rfl)) pgs_nil)))
              (pss_cons (ps_set (i := 17) nd rfl (.inl rfl) (pe_cl c__law_orders hr (by omega) (by rfl) (pa_cons (pv 3) (pa_cons (pv 5) (pa_cons (pv 12) pa_nil)))))
              (pss_cons (ps_if ((pw_and (pt_cmpR op_eq (pe_callB (kc_len (K := K)) (by rfl) T.len PySem.boot_len (pa_cons (pv 12) pa_nil)) pe_int (nomark _)) (pw_and1 (pt_cmpR (ko_ne (K := K) hu64) (pe_cl c_wanted_of hr (by omega) (by rfl) (pa_cons (pe_callTy (kc_tuple (K := K)) (by rfl) T.tuple (by decide +kernel) (pa_cons (pv 3) pa_nil)) (pa_cons (pv 5) (pa_cons (pe_ix (kx_list (K := K)) (pv 12) pe_int (fun _ _ => rfl)) pa_nil)))) (pv 17) (nomark _))))).pt
                  pss_never
                  pss_nil)
              (pss_cons (ps_set (i := 18) nd rfl (.inl rfl) (pe_cl c__law_colour_right hr (by omega) (by rfl) (pa_cons (pv 9) (pa_cons (pv 17) (pa_cons (pv 8) (pa_cons (pe_tup (pa_cons (pv 16) (pa_cons (pv 15) pa_nil))) pa_nil))))))
              (pss_cons (ps_if (pt_cmpR op_isN (pv 18) pe_non (nomark _))
                  pss_never
                  pss_nil)
              (pss_one (ps_expr (pe_bm PySem.F.plainAttrs_list PySem.F.slot_list_append PySem.F.type_list_append mt_append (pv 14) (pa_cons (pv 18) pa_nil)))))))))
          (pss_cons (ps_if ((pw_or (pt_cmpR op_ne (pe_callB (kc_max (K := K)) (by rfl) T.max (by decide +kernel) (pa_cons (pv 14) pa_nil)) (pe_ix (kx_list (K := K)) (pv 14) (pe_un un_neg pe_int) (fun _ _ => rfl)) (nomark _)) (pw_or1 (pt_cmpR op_ne (pe_callB (kc_repr (K := K) gd hu64) (by rfl) T.repr (by decide +kernel) (pa_cons (pe_lst (pa_cons (pv 3) (pa_cons (pv 5) pa_nil))) pa_nil)) (pv 10) (nomark _))))).pt
              pss_never
              pss_nil)
          (pss_cons (ps_set (i := 13) nd rfl (.inl rfl) (pv 14))
          (pss_one (ps_set (i := 9) nd rfl (.inl rfl) (pe_op op_cat (pv 9) (pe_lst (pa_cons (pe_tup (pa_cons (pe_ix (kx_list (K := K)) (pv 2) (pe_cl c__law_take hr (by omega) (by rfl) (pa_cons (pv 0) (pa_cons (pe_callB (kc_len (K := K)) (by rfl) T.len PySem.boot_len (pa_cons (pv 2) pa_nil)) pa_nil))) (fun _ _ => rfl)) (pa_cons (pe_cl c__law_take hr (by omega) (by rfl) (pa_cons (pv 0) (pa_cons pe_int pa_nil))) pa_nil))) pa_nil))))))))))
      (pss_one (ps_ret pe_bl))))))))))), ?_⟩
    have nl0 : ∀ {x : HO} {l : List V}, x = .lst l → ∀ ps, x ≠ .tbl ps := fun e ps z => by rw [e] at z; cases z
    have S := St8.start B tb
    obtain ⟨HS, eHS⟩ : ∃ HS, HS = H := ⟨_, rfl⟩
    rw [← eHS] at q
    have S : St8 Pt b HS 0 H := by rw [eHS]; exact S
    clear eHS tb B
    refine ⟨_, rfl, b, 9, _, rfl, (by decide), (by decide), S.B, by omega, fun H2 r1 r10 r11 B2 s2 => ⟨_, _, rfl, rfl, ?_⟩⟩
    have S := S.draw B2 s2
    refine ⟨_, rfl, b, 9, _, rfl, (by decide), (by decide), S.B, by omega, fun H3 r2 r20 r21 B3 s3 => ⟨_, _, rfl, rfl, (by show 3 ≤ sizeLine; decide), fun pA np1 => ?_⟩⟩
    have S := S.draw B3 s3
    have fp1 : upd H3 pA (.lst [.int (1 + r1), .int (1 + r2), .int 1]) pA = some (.lst [.int (1 + r1), .int (1 + r2), .int 1]) := upd_same
    have p1b := S.ne np1
    have S := S.put (o := .lst [.int (1 + r1), .int (1 + r2), .int 1]) np1
    generalize upd H3 pA (.lst [.int (1 + r1), .int (1 + r2), .int 1]) = H4 at fp1 S ⊢
    clear B2 s2 B3 s3 np1
    refine ⟨_, _, rfl, rfl, ⟨by decide, by decide, by decide, by decide, by decide⟩, fun p2 np2 => ?_⟩
    have fp2 : upd H4 p2 (.lst (rgV 1 10)) p2 = some (.lst (rgV 1 10)) := upd_same
    have p2b := S.ne np2
    have fp1 := same_upd (o := .lst (rgV 1 10)) np2 _ _ fp1
    have S := S.put (o := .lst (rgV 1 10)) np2
    generalize upd H4 p2 (.lst (rgV 1 10)) = H5 at fp1 fp2 S ⊢
    refine ⟨_, rfl, (by show 2 ≤ sizeLine; decide), fun p4 np4 => ?_⟩
    have fp4 : upd H5 p4 (.lst [.ref p2, .ref pA]) p4 = some (.lst [.ref p2, .ref pA]) := upd_same
    have p4b := S.ne np4
    have fp1 := same_upd (o := .lst [.ref p2, .ref pA]) np4 _ _ fp1
    have fp2 := same_upd (o := .lst [.ref p2, .ref pA]) np4 _ _ fp2
    have S := S.put (o := .lst [.ref p2, .ref pA]) np4
    generalize upd H5 p4 (.lst [.ref p2, .ref pA]) = H6 at fp1 fp2 fp4 S ⊢
    refine ⟨_, rfl, b, 2, _, rfl, (by decide), (by decide), S.B, by omega, fun H8 r3 r30 r31 B8 s8 => ?_⟩
    have fp1 := sm_at s8 (by simp [p1b]) fp1
    have fp2 := sm_at s8 (by simp [p2b]) fp2
    have fp4 := sm_at s8 (by simp [p4b]) fp4
    have S := S.draw B8 s8
    obtain ⟨R, rs, eR, fR, Rb, rok⟩ : ∃ (R : Addr) (rs : List Int), atI [V.ref p2, .ref pA] r3 = some (.ref R) ∧ H8 R = some (.lst (rs.map V.int)) ∧ R ≠ b ∧ RkOk rs := by
      have h : r3 = 0 ∨ r3 = 1 := by omega
      rcases h with rfl | rfl
      · exact ⟨p2, [1, 2, 3, 4, 5, 6, 7, 8, 9], rfl, fp2, p2b, by decide, by decide, by decide⟩
      · refine ⟨pA, [1 + r1, 1 + r2, 1], rfl, fp1, p1b, (by show 0 < 3; decide), (by show 3 ≤ 9; decide), fun r hr => ?_⟩
        rcases List.mem_cons.mp hr with rfl | hr
        · omega
        rcases List.mem_cons.mp hr with rfl | hr
        · omega
        · rw [List.mem_singleton.mp hr]; omega
    refine ⟨p4, _, r3, _, rfl, rfl, SqL.of fp4, eR, ?_⟩
    clear eR fp4 fp2 p4b p2b np2 np4 s8 B8
    simp only [gName, List.set]
    refine ⟨_, rfl, b, 8, _, rfl, (by decide), (by decide), S.B, by omega, fun H9 q3 q30 q31 B9 s9 => ?_⟩
    have fR := sm_at s9 (by simp [Rb]) fR
    have S := S.draw B9 s9
    clear B9 s9 fp1 p1b
    refine ⟨_, _, rfl, rfl, _, rfl, _, rfl, (by decide +kernel), _, rfl, fun D nD => ?_⟩
    obtain ⟨z8, ez8, wz8, lz8⟩ : ∃ z : Str, cutS (Str.ofString "abcdefgh") none (some (1 + q3)) = z ∧ Wd 8 z ∧ z.cps.size = (1 + q3).toNat := by
      have h : q3 = 0 ∨ q3 = 1 ∨ q3 = 2 ∨ q3 = 3 ∨ q3 = 4 ∨ q3 = 5 ∨ q3 = 6 ∨ q3 = 7 := by omega
      rcases h with rfl | rfl | rfl | rfl | rfl | rfl | rfl | rfl <;> exact ⟨_, rfl, ⟨by decide +kernel, by decide +kernel⟩, by decide +kernel⟩
    rw [ez8]
    have T9 := St8.start S.B S.tb
    have Db := S.ne nD
    refine lc_it (walk_str (z := z8)) (fun i Hx => ∃ n us ks, St8 Pt b H9 n Hx ∧ n ≤ 10 + 2 * i ∧ Hx D = some (.lst us) ∧ DpAll K Hx us (ks.map kdD) ∧ ks.length = i ∧ ∀ k ∈ ks, KdOk k)
      ⟨_, [], [], T9.put nD, by omega, upd_same, .nil, rfl, fun _ h => (List.not_mem_nil h).elim⟩ (fun _ _ _ _ => trivial) ?_ ?_
    · rintro i x Hx Hy hi ⟨n, us, ks, S, hn, hD, du, lk, kk⟩ ⟨rfl, c, gc, rfl⟩
      refine ⟨rfl, tYes_at ?_⟩
      rw [if_pos rfl]
      have hi8 : i < 8 := by omega
      have hc := wz8.2 c (by have := Array.mem_of_getElem? gc; simpa using this)
      have wc : Wd 5 (Str.ofString "kind" ++ (⟨#[c]⟩ : Str)) := wd_add wd_kind (wd_sign hc.1 hc.2)
      have fR := S.at Rb fR
      have lus : us.length = i := by rw [dpAll_map_len du]; exact lk
      refine ⟨_, rfl, _, _, rfl, rfl, Nat.le_trans (by rw [← strLen_append]; exact wc.1) (by decide), ?_⟩
      generalize Str.ofString "kind" ++ (⟨#[c]⟩ : Str) = nm at wc ⊢
      refine ⟨_, rfl, _, rfl, _, rfl, _, _, rfl, .inl ⟨_, SqL.of fR, rfl⟩, b, ((rs.map V.int).length : Nat), _, rfl, by rw [List.length_map]; have := rok.1; omega, by rw [List.length_map]; have := rok.2.1; omega, S.B, by omega, fun HA r r0 r1 BA sA => ?_⟩
      rw [List.length_map] at r1
      have du := kd_nl (Nl.box sA S.B.bx) du
      have hD := sm_at sA (by simp [Db]) hD
      have fR := sm_at sA (by simp [Rb]) fR
      have S := S.draw BA sA
      obtain ⟨j, rfl⟩ : ∃ j : Nat, r = (j : Int) := ⟨r.toNat, by omega⟩
      have hj : j < rs.length := by omega
      have hr9 := rok.2.2 _ (List.getElem_mem hj)
      refine ⟨R, _, j, .int rs[j], rfl, rfl, SqL.of fR, atI_nat (by rw [List.getElem?_map, List.getElem?_eq_getElem hj]; rfl), (by show 3 ≤ sizeLine; decide), fun t nt => ?_⟩
      have su := same_upd (o := .tup [.str nm, .int rs[j], .int 1]) nt
      have S := S.same su
      have nw := Nl.wr (o := .lst (us ++ [.ref t])) (su _ _ hD)
      refine ⟨us, su _ _ hD, (by rw [lus, sizeLine_eq]; omega), _, us ++ [.ref t], ks ++ [(nm, rs[j], 1)], S.wr (su _ _ hD) nD Db, (by omega), upd_same, ?_, by rw [List.length_append, lk]; rfl, fun k hk => ?_⟩
      · rw [List.map_append]
        exact dpAll_app (kd_nl nw (dpAll_same su du)) (.cons (.tup (sqT_nl nw (.inl (.inl upd_same))) (.cons (.str _) (.cons (.int _) (.cons (.int _) .nil)))) .nil)
      · rcases List.mem_append.mp hk with h | h
        · exact kk k h
        · rw [List.mem_singleton.mp h]
          exact ⟨wc.mono (by decide), hr9.1, hr9.2, rfl⟩
    rintro H2 ⟨n, kx, ks, S2, hn, hD, dk, lk, kk⟩
    have lk1 : 1 ≤ ks.length := by omega
    have lk8 : ks.length ≤ 8 := by omega
    have fR := S2.at Rb fR
    have S := (S.trans S2).mono (show _ ≤ 30 by omega)
    clear S2 hn lk lz8 ez8 wz8 T9 nD q30 q31
    simp only [gName, List.set]
    -- colours
    refine ⟨(by show 4 ≤ sizeLine; decide), fun pc1 np1 => ?_⟩
    generalize e4 : ([V.str (Str.ofString "amber"), .str (Str.ofString "blue"), .str (Str.ofString "green"), .str (Str.ofString "aqua")] : List V) = four at np1 ⊢
    have su := same_upd (o := .lst four) np1
    have fc : upd H2 pc1 (.lst four) pc1 = some (.lst four) := upd_same
    have pc1b := S.ne np1
    have fR := su _ _ fR
    have hD := su _ _ hD
    have dk := dpAll_same su dk
    have S := S.same su
    generalize upd H2 pc1 (.lst four) = H3 at fc fR hD dk S ⊢
    clear su np1
    refine ⟨_, rfl, b, 4, _, rfl, (by decide), (by decide), S.B, by omega, fun H4 qc q0 q1 B4 s4 => ?_⟩
    have fR := sm_at s4 (by simp [Rb]) fR
    have hD := sm_at s4 (by simp [Db]) hD
    have fc := sm_at s4 (by simp [pc1b]) fc
    have dk := kd_nl (Nl.box s4 S.B.bx) dk
    have S := S.draw B4 s4
    refine ⟨_, _, rfl, rfl, _, rfl, pc1, _, rfl, SqL.of fc, fun C nC => ⟨Nat.zero_le _, fun W nW => ⟨(by show 2 ≤ sizeLine; decide), fun t nt => ?_⟩⟩⟩
    obtain ⟨cl, ecl, wcl, cl1, cl4⟩ : ∃ cl : List Str, cutV four none (some (1 + qc)) = cl.map V.str ∧ (∀ z ∈ cl, Nm8 z) ∧ 1 ≤ cl.length ∧ cl.length ≤ 4 := by
      have h : qc = 0 ∨ qc = 1 ∨ qc = 2 ∨ qc = 3 := by omega
      have w1 : Wd 8 (Str.ofString "amber") := ⟨by decide +kernel, by decide +kernel⟩
      have w2 : Wd 8 (Str.ofString "blue") := ⟨by decide +kernel, by decide +kernel⟩
      have w3 : Wd 8 (Str.ofString "green") := ⟨by decide +kernel, by decide +kernel⟩
      have w4 : Wd 8 (Str.ofString "aqua") := ⟨by decide +kernel, by decide +kernel⟩
      rw [← e4]
      rcases h with rfl | rfl | rfl | rfl
      · exact ⟨[Str.ofString "amber"], rfl, by simp [Nm8, w1], by decide, by decide⟩
      · exact ⟨[Str.ofString "amber", Str.ofString "blue"], rfl, by simp [Nm8, w1, w2], by decide, by decide⟩
      · exact ⟨[Str.ofString "amber", Str.ofString "blue", Str.ofString "green"], rfl, by simp [Nm8, w1, w2, w3], by decide, by decide⟩
      · exact ⟨[Str.ofString "amber", Str.ofString "blue", Str.ofString "green", Str.ofString "aqua"], rfl, by simp [Nm8, w1, w2, w3, w4], by decide, by decide⟩
    rw [ecl] at nW nt ⊢
    have Cb := S.ne nC
    have a1 := same_upd (o := .lst (cl.map V.str)) nC
    have Wb := (S.same a1).ne nW
    have a2 := same_upd (o := .lst []) nW
    have a3 := same_upd (o := .tup [.ref C, .ref W]) nt
    have a := (a1.trans a2).trans a3
    have nW4 := same_free a1 nW
    have CW := ne_of_none (show upd H4 C (.lst (cl.map V.str)) C = some _ from upd_same) nW
    have T := (St8.start S.B S.tb).same a
    have fR4 := fR
    have hD4 := hD
    have dk4 := dk
    have S4 := S
    have hC : upd (upd (upd H4 C (.lst (cl.map V.str))) W (.lst [])) t (.tup [.ref C, .ref W]) C = some (.lst (cl.map V.str)) := a3 _ _ (a2 _ _ upd_same)
    have hW : upd (upd (upd H4 C (.lst (cl.map V.str))) W (.lst [])) t (.tup [.ref C, .ref W]) W = some (.lst []) := a3 _ _ upd_same
    have ht : upd (upd (upd H4 C (.lst (cl.map V.str))) W (.lst [])) t (.tup [.ref C, .ref W]) t = some (.tup [.ref C, .ref W]) := upd_same
    generalize upd (upd (upd H4 C (.lst (cl.map V.str))) W (.lst [])) t (.tup [.ref C, .ref W]) = H5 at hC hW ht T ⊢
    clear a a1 a2 a3 fc nC nW nt ecl e4 B4 s4 pc1b S fR hD dk
    refine ⟨t, _, rfl, .inl (.inl ht), rfl, _, _, rfl, _, _, rfl, rfl, ?_⟩
    clear ht
    simp only [gName, gCons, gNil, List.set]
    have T := T.mono (show _ ≤ 40 by omega)
    refine ⟨_, rfl, b, 6, _, rfl, (by decide), (by decide), T.B, by omega, fun H6 tn t0 t1 B6 s6 => ⟨_, rfl, (by omega), (by omega), ?_⟩⟩
    have hC := sm_at s6 (by simp [Cb]) hC
    have hW := sm_at s6 (by simp [Wb]) hW
    have T := T.draw B6 s6
    have lkx : kx.length = ks.length := dpAll_map_len dk4
    clear B6 s6
    refine for_it walk_range (fun j σ H9 => ∃ v6 v7 n bx ws, σ = [some (V.ref b), some (V.ref pA), some (V.ref R), some (V.ref D), some (V.ref C), some (V.ref W), v6, v7, none, none, none, none, none, none, none, none, none, none, none, none, none, none] ∧ St8 Pt b H4 n H9 ∧ n ≤ 50 + 4 * j ∧ H9 C = some (.lst (cl.map V.str)) ∧ H9 W = some (.lst bx) ∧ DpAll K H9 bx (ws.map wnD) ∧ ws.length = j ∧ ∀ w ∈ ws, WnOk ks w)
      ⟨none, none, _, [], [], rfl, T, by omega, hC, hW, .nil, rfl, fun _ h => (List.not_mem_nil h).elim⟩ (fun _ _ _ _ _ => trivial) ?_ ?_
    · clear hC hW T
      rintro j x σ H7 H8 hj ⟨v6, v7, n, bx, ws, rfl, T, hn, hC, hW, dw, lw, kw⟩ ⟨rfl, rfl⟩
      have hj6 : j < 6 := by omega
      have hD := T.at Db hD4
      have dk := kd_nl T.nl dk4
      refine ⟨_, rfl, _, rfl, _, rfl, _, _, rfl, .inl ⟨_, SqL.of hD, rfl⟩, b, (kx.length : Nat), _, rfl, by omega, by omega, T.B, by omega, fun HC k1 k10 k11 BC sC => ?_⟩
      have nlC := Nl.box sC T.B.bx
      have dk := kd_nl nlC dk
      have dw := wn_nl nlC dw
      have hD := sm_at sC (by simp [Db]) hD
      have hC := sm_at sC (by simp [Cb]) hC
      have hW := sm_at sC (by simp [Wb]) hW
      have T := T.draw BC sC
      obtain ⟨kj, rfl⟩ : ∃ n : Nat, k1 = (n : Int) := ⟨k1.toNat, by omega⟩
      have hkj : kj < kx.length := by omega
      obtain ⟨ta, kd, eta, hta, gkd⟩ := kd_at dk (List.getElem?_eq_getElem hkj)
      refine ⟨D, kx, kj, _, rfl, rfl, SqL.of hD, atI_nat (by rw [List.getElem?_eq_getElem hkj, eta]), ta, _, 0, _, rfl, rfl, hta, rfl, ?_⟩
      have hkd := List.mem_of_getElem? gkd
      refine ⟨_, rfl, .inl ⟨rfl, _, SqL.of hW⟩, _, rfl, _, rfl, _, rfl, _, rfl, _, _, rfl, .inl ⟨_, SqL.of hC, rfl⟩, b, ((cl.map V.str).length : Nat), _, rfl, by rw [List.length_map]; omega, by rw [List.length_map]; omega, T.B, by omega, fun HE c1 c10 c11 BE sE => ?_⟩
      rw [List.length_map] at c11
      have nlE := Nl.box sE T.B.bx
      have dw := wn_nl nlE dw
      have hC := sm_at sE (by simp [Cb]) hC
      have hW := sm_at sE (by simp [Wb]) hW
      have T := T.draw BE sE
      obtain ⟨cj, rfl⟩ : ∃ n : Nat, c1 = (n : Int) := ⟨c1.toNat, by omega⟩
      have hcj : cj < cl.length := by omega
      refine ⟨C, _, cj, .str (cl[cj]), rfl, rfl, SqL.of hC, atI_nat (by rw [List.getElem?_map, List.getElem?_eq_getElem hcj]; rfl), _, rfl, b, 4, _, rfl, (by decide), (by decide), T.B, by omega, fun HF mn mn0 mn1 BF sF => ⟨(by show 3 ≤ sizeLine; decide), fun t8 nt8 => ?_⟩⟩
      have nlF := Nl.box sF T.B.bx
      have dw := wn_nl nlF dw
      have hC := sm_at sF (by simp [Cb]) hC
      have hW := sm_at sF (by simp [Wb]) hW
      have T := T.draw BF sF
      have s8 := same_upd (o := .tup [.str kd.1, .str (cl[cj]), .int mn]) nt8
      have dw := dpAll_same s8 dw
      have hC := s8 _ _ hC
      have hW := s8 _ _ hW
      have T := T.same s8
      have ht8 : upd HF t8 (.tup [.str kd.1, .str (cl[cj]), .int mn]) t8 = some (.tup [.str kd.1, .str (cl[cj]), .int mn]) := upd_same
      generalize upd HF t8 (.tup [.str kd.1, .str (cl[cj]), .int mn]) = HG at T dw hC hW ht8 ⊢
      have lbx : bx.length = j := by rw [dpAll_map_len dw]; exact lw
      have nw := Nl.wr (o := .lst (bx ++ [.ref t8])) hW
      refine ⟨W, bx, _, rfl, rfl, hW, (by rw [lbx, sizeLine_eq]; omega), ?_⟩
      refine ⟨_, _, _, bx ++ [.ref t8], ws ++ [(kd.1, cl[cj], mn)], rfl, T.wr hW nW4 Wb, (by omega), (by rw [upd_ne CW]; exact hC), upd_same, ?_, by rw [List.length_append, lw]; rfl, fun w hw => ?_⟩
      · rw [List.map_append]
        exact dpAll_app (wn_nl nw dw) (.cons (.tup (sqT_nl nw (.inl (.inl ht8))) (.cons (.str _) (.cons (.str _) (.cons (.int _) .nil)))) .nil)
      · rcases List.mem_append.mp hw with h | h
        · exact kw w h
        · rw [List.mem_singleton.mp h]
          exact ⟨List.mem_map_of_mem hkd, (kk kd hkd).1, wcl _ (List.getElem_mem _), mn0, by show mn ≤ 3; omega⟩
    · rintro σ H9 ⟨v6, v7, n, bx, ws, rfl, T, hn, hC, hW, dw, lw, kw⟩
      have lw5 : ws.length ≤ 5 := by omega
      have kwm : ∀ w ∈ ws, w.1 ∈ ks.map (·.1) := fun w h => (kw w h).1
      have fR := T.at Rb fR4
      have hD := T.at Db hD4
      have dk := kd_nl T.nl dk4
      have S := (S4.trans T).mono (show _ ≤ 80 by omega)
      clear T hn lw t0 t1 nW4 fR4 hD4 dk4 S4
      -- much, crews, kept
      refine ⟨_, rfl, _, _, rfl, rfl, ⟨by decide, by decide⟩, b, 10000000, _, rfl, (by decide), (by decide), S.B, by omega, fun HA x1 x10 x11 BA sA => ?_⟩
      have nlA := Nl.box sA S.B.bx
      have hC := sm_at sA (by simp [Cb]) hC
      have hW := sm_at sA (by simp [Wb]) hW
      have hD := sm_at sA (by simp [Db]) hD
      have fR := sm_at sA (by simp [Rb]) fR
      have dw := wn_nl nlA dw
      have dk := kd_nl nlA dk
      have S := S.draw BA sA
      refine ⟨_, rfl, b, 10, _, rfl, (by decide), (by decide), S.B, by omega, fun HB x2 x20 x21 BB sB => ?_⟩
      have nlB := Nl.box sB S.B.bx
      have hC := sm_at sB (by simp [Cb]) hC
      have hW := sm_at sB (by simp [Wb]) hW
      have hD := sm_at sB (by simp [Db]) hD
      have fR := sm_at sB (by simp [Rb]) fR
      have dw := wn_nl nlB dw
      have dk := kd_nl nlB dk
      have S := S.draw BB sB
      obtain ⟨M, eM, M1, M2⟩ : ∃ M : Int, 1 + x1 * x2 = M ∧ 1 ≤ M ∧ M ≤ 100000000 := ⟨_, rfl, by have := Int.mul_nonneg x10 x20; omega, by
        have h1 : x1 * x2 ≤ 9999999 * x2 := Int.mul_le_mul_of_nonneg_right (by omega) x20
        omega⟩
      refine ⟨_, _, rfl, rfl, .inl ⟨by omega, by omega⟩, _, _, rfl, rfl, Nat.zero_le _, fun E nE => ?_⟩
      clear BA sA BB sB nlA nlB x10 x11 x20 x21
      have Eb := S.ne nE
      have su := same_upd (o := .lst []) nE
      have hE : upd HB E (.lst []) E = some (.lst []) := upd_same
      have hC := su _ _ hC
      have hW := su _ _ hW
      have hD := su _ _ hD
      have fR := su _ _ fR
      have dw := dpAll_same su dw
      have dk := dpAll_same su dk
      have S := S.same su
      generalize upd HB E (.lst []) = HC at hE hC hW hD fR dw dk S ⊢
      clear su nE
      refine ⟨_, rfl, _, rfl, (by show 2 ≤ sizeLine; decide), fun a4 na4 => ?_⟩
      have bth : ∀ {HX : Hp} {A : Addr}, HX A = some (.lst [.ref D, .ref W]) → HX D = some (.lst kx) → HX W = some (.lst bx) → DpAll K HX kx (ks.map kdD) → DpAll K HX bx (ws.map wnD) → Dp K HX (.ref A) (bothK ks ws) := fun h h1 h2 d1 d2 => .lst (SqL.of h) (.cons (.lst (SqL.of h1) d1) (.cons (.lst (SqL.of h2) d2) .nil))
      have b4 := bd_bothK kk kw (by omega) (by omega)
      have su := same_upd (o := .lst [.ref D, .ref W]) na4
      have hE := su _ _ hE
      have hC := su _ _ hC
      have hW := su _ _ hW
      have hD := su _ _ hD
      have fR := su _ _ fR
      have dw := dpAll_same su dw
      have dk := dpAll_same su dk
      have S := S.same su
      refine ⟨a4, _, rfl, bth upd_same hD hW dk dw, gd_fineW (by decide) _ b4.t.g, Nat.le_trans b4.t.d (by decide), Nat.le_trans b4.t.c (by decide), _, _, _, rfl, ?_⟩
      generalize upd HC a4 (.lst [.ref D, .ref W]) = HD at hE hC hW hD fR dw dk S ⊢
      clear su na4
      simp only [gName, gCons, gNil, List.set]
      rw [eM]
      clear eM
      -- groups
      refine ⟨_, rfl, C, rfl, ⟨_, SqL.of hC⟩, fun L nL => ?_⟩
      have Lb := S.ne nL
      refine lc_it (walk_list (xs := cl.map V.str)) (fun i Hx => Same HD Hx ∧ ∃ us, Hx L = some (.lst us) ∧ Paired (fun v zs => ∃ g, v = .ref g ∧ g ≠ b ∧ g ≠ L ∧ Hx g = some (.lst (zs.map V.str))) us ((cl.take i).map fun z => [z]))
        ⟨same_upd nL, [], upd_same, .nil⟩ (fun i Hx _ h => SqL.of (h.1 _ _ hC)) ?_ ?_
      · rintro i x Hx Hy hi ⟨sx, us, hL, pr⟩ ⟨rfl, gx⟩
        rw [List.getElem?_map] at gx
        obtain ⟨z, gz, rfl⟩ := Option.map_eq_some_iff.mp gx
        refine ⟨rfl, tYes_at ?_⟩
        rw [if_pos rfl]
        have lus : us.length ≤ 4 := by rw [Paired.length pr, List.length_map, List.length_take]; omega
        refine ⟨_, rfl, (by show 1 ≤ sizeLine; decide), fun g ng => ?_⟩
        have sg := same_upd (o := .lst [.str z]) ng
        have gL := ne_of_none hL ng
        refine ⟨us, sg _ _ hL, (by rw [sizeLine_eq]; omega), same_put (sx.trans sg) nL, us ++ [.ref g], upd_same, ?_⟩
        rw [List.take_add_one, gz, Option.toList_some, List.map_append]
        refine paired_snoc ⟨g, rfl, (S.same sx).ne ng, Ne.symm gL, by rw [upd_ne (Ne.symm gL)]; exact upd_same⟩ (paired_imp (fun v zs h => ?_) pr)
        obtain ⟨g, rfl, h1, h2, h3⟩ := h
        exact ⟨g, rfl, h1, h2, by rw [upd_ne h2]; exact sg _ _ h3⟩
      rintro HE ⟨sx, us, hL, pr⟩
      have pr : Paired (GrpAt b HE) us (cl.map fun z => [z]) := by
        rw [List.length_map, List.take_length] at pr
        exact paired_imp (fun v zs ⟨g, h1, h2, h3, h4⟩ => ⟨g, h1, h2, h4⟩) pr
      have lus : us.length = cl.length := by rw [Paired.length pr, List.length_map]
      refine ⟨_, rfl, (by show 1 ≤ sizeLine; decide), fun l2 nl2 => ⟨L, l2, us, _, rfl, rfl, same_upd nl2 _ _ hL, upd_same, (by rw [sizeLine_eq]; show _ + 1 ≤ _; omega), fun G nG => ?_⟩⟩
      have s1 := same_upd (o := .lst [.ref C]) nl2
      have s2 := same_upd (o := .lst (us ++ [.ref C])) nG
      have sa := (sx.trans s1).trans s2
      have Gb := ((S.same sx).same s1).ne nG
      have hG : upd (upd HE l2 (.lst [.ref C])) G (.lst (us ++ [.ref C])) G = some (.lst (us ++ [.ref C])) := upd_same
      have pr : Paired (GrpAt b (upd (upd HE l2 (.lst [.ref C])) G (.lst (us ++ [.ref C])))) (us ++ [.ref C]) (grpF cl) := paired_snoc ⟨C, rfl, Cb, sa _ _ hC⟩ (paired_imp (fun v zs ⟨g, h1, h2, h3⟩ => ⟨g, h1, h2, s2 _ _ (s1 _ _ h3)⟩) pr)
      have hE := sa _ _ hE
      have hW := sa _ _ hW
      have hD := sa _ _ hD
      have fR := sa _ _ fR
      have dw := dpAll_same sa dw
      have dk := dpAll_same sa dk
      have S := S.same sa
      generalize upd (upd HE l2 (.lst [.ref C])) G (.lst (us ++ [.ref C])) = HF at hG pr hE hW hD fR dw dk S ⊢
      have lgx : (us ++ [V.ref C]).length = (grpF cl).length := Paired.length pr
      have lgr : (grpF cl).length ≤ 5 := by unfold grpF; rw [List.length_append, List.length_map]; show _ + 1 ≤ 5; omega
      generalize us ++ [V.ref C] = gx at hG pr lgx ⊢
      clear sa s1 s2 sx nl2 nG nL hL Lb hC lus
      simp only [gName, gCons, gNil, List.set]
      -- lacks
      refine ⟨_, rfl, G, rfl, ⟨_, SqL.of hG⟩, fun Z nZ => ?_⟩
      have Zb := S.ne nZ
      refine lc_it (walk_list (xs := gx)) (fun i Hx => Same HF Hx ∧ Hx Z = some (.lst (((grpF cl).take i).map fun zs => V.int (sumK ks ws zs)))) ⟨same_upd nZ, upd_same⟩ (fun i Hx _ h => SqL.of (h.1 _ _ hG)) ?_ ?_
      · rintro i x Hx Hy hi ⟨sx, hZ⟩ ⟨rfl, gi⟩
        obtain ⟨zs, gz, g, rfl, gb, hg⟩ := paired_at pr gi
        refine ⟨rfl, tYes_at ?_⟩
        rw [if_pos rfl]
        refine ⟨_, rfl, _, rfl, _, rfl, D, W, g, zs, kx, bx, ks, ws, rfl, SqL.of (sx _ _ hD), SqL.of (sx _ _ hW), SqL.of (sx _ _ hg), dpAll_same sx dk, dpAll_same sx dw, by omega, by omega, kwm, fun Hq O us2 sq nO hO dO => ⟨O, rfl, ⟨_, SqL.of hO⟩, fun D2 nD2 => ?_⟩⟩
        have lus2 : us2.length = (dueG ks ws zs).length := dpAll_map_len dO
        have esum : sumK ks ws zs = ((dueG ks ws zs).map (·.2)).sum := rfl
        have ldu : (dueG ks ws zs).length ≤ 5 := Nat.le_trans (dueG_len _ _ _) lw5
        have e1 : ((grpF cl).take (i + 1)).map (fun zs => V.int (sumK ks ws zs)) = ((grpF cl).take i).map (fun zs => V.int (sumK ks ws zs)) ++ [V.int (sumK ks ws zs)] := by rw [List.take_add_one, gz, Option.toList_some, List.map_append]; rfl
        rw [e1, esum]
        generalize dueG ks ws zs = os at dO lus2 ldu ⊢
        refine lc_it (walk_list (xs := us2)) (PvL Hq D2 fun i => ((os.take i).map (·.2)).map V.int) (pv_start nD2 rfl) (fun i H4 _ h => SqL.of (h.1 _ _ hO)) ?_ ?_
        · rintro j y H4 H5 hj p ⟨rfl, gy⟩
          obtain ⟨a, rfl, ha, hi2, _⟩ := pcs_at (dpAll_same p.1 dO) gy
          have gp : os[j]? = some (os.getD j pc0) := by rw [List.getD_eq_getElem?_getD, List.getElem?_eq_getElem hi2]; rfl
          generalize os.getD j pc0 = pr at ha gp
          refine ⟨rfl, tYes_at ?_⟩
          rw [if_pos rfl]
          refine ⟨_, rfl, a, _, 1, _, rfl, rfl, ha, rfl, pv_put nD2 p (Same.refl _) (by rw [List.take_add_one, gp, List.map_append, List.map_append]; rfl) ?_⟩
          rw [List.length_map, List.length_map, List.length_take, sizeLine_eq]; omega
        intro Hs p
        obtain ⟨ss, hD2⟩ := pv_end p (show _ = (os.map (·.2)).map V.int by rw [lus2, List.take_length])
        have sZ := sx.trans (sq.trans ss)
        have hZ := ss _ _ (sq _ _ hZ)
        exact ⟨D2, _, rfl, SqL.of hD2, _, hZ, (by rw [List.length_map, List.length_take, sizeLine_eq]; omega), same_put sZ nZ, upd_same⟩
      rintro HH ⟨sx, hZ⟩
      rw [lgx, List.take_length] at hZ
      have hG := sx _ _ hG
      have hE := sx _ _ hE
      have hW := sx _ _ hW
      have hD := sx _ _ hD
      have fR := sx _ _ fR
      have dw := dpAll_same sx dw
      have dk := dpAll_same sx dk
      have pr : Paired (GrpAt b HH) gx (grpF cl) := paired_imp (fun v zs ⟨g, h1, h2, h3⟩ => ⟨g, h1, h2, sx _ _ h3⟩) pr
      have S := (S.same sx).mono (show _ ≤ 100 by omega)
      clear sx nZ
      simp only [gName, List.set]
      have SH := S
      have S := St8.start S.B S.tb
      refine ⟨_, rfl, b, 4, _, rfl, (by decide), (by decide), S.B, by omega, fun HJ tn t0 t1 BJ sJ => ⟨_, _, rfl, rfl, _, rfl, (by omega), (by omega), ?_⟩⟩
      have S := S.draw BJ sJ
      have hE := sm_at sJ (by simp [Eb]) hE
      have hZ := sm_at sJ (by simp [Zb]) hZ
      clear BJ sJ
      have lws : ∀ w ∈ ws, 0 ≤ w.2.2 := fun w h => (kw w h).2.2.2.1
      have kd3 : ∀ zs : List Str, ∀ p ∈ dueG ks ws zs, PcOk p ∧ p.2 ≤ 3 := fun zs => due_ok kk kw
      have kd1 : ∀ zs : List Str, ∀ p ∈ dueG ks ws zs, PcOk p := fun zs p hp => (kd3 zs p hp).1
      refine for_it walk_range (fun j σ H9 => ∃ v6 v7 v12 v14 v15 v16 v17 v18 n Ea Za xs cs, ∃ g : List Str → Int, σ = [some (V.ref b), some (V.ref pA), some (V.ref R), some (V.ref D), some (V.ref C), some (V.ref W), v6, v7, some (V.int M), some (V.ref Ea), some (V.str (bothK ks ws).shown), some (V.ref G), v12, some (V.ref Za), v14, v15, v16, v17, v18, none, none, none] ∧ St8 Pt b HH n H9 ∧ n ≤ 110 + 8 * j ∧ Ea ≠ b ∧ H9 Ea = some (.lst xs) ∧ DpAll K H9 xs (cs.map pcD) ∧ cs.length = j ∧ (∀ p ∈ cs, PcOk p ∧ p.2 ≤ 3) ∧ Za ≠ b ∧ H9 Za = some (.lst ((grpF cl).map fun zs => V.int (g zs))) ∧ ∀ zs : List Str, lackingF cs (dueG ks ws zs) ≤ g zs ∧ g zs - lastF cs ≤ lackingF cs (dueG ks ws zs))
        ⟨_, _, none, none, none, none, none, none, _, E, Z, [], [], _, rfl, S, by omega, Eb, hE, .nil, rfl, (fun _ h => (List.not_mem_nil h).elim), Zb, hZ, fun zs => ?_⟩ (fun _ _ _ _ _ => trivial) ?_ ?_
      · rw [lack_none (kd1 zs)]
        exact ⟨Int.le_refl _, by show _ - 0 ≤ _; unfold sumK; omega⟩
      · clear S hE hZ
        rintro j x σ H9 HK hj ⟨v6, v7, v12, v14, v15, v16, v17, v18, n, Ea, Za, xs, cs, g, rfl, S, hn, Eb, hE, dc, lc, kc, Zb, hZ, hg⟩ ⟨rfl, rfl⟩
        have hj4 : j < 4 := by omega
        have kc1 : ∀ p ∈ cs, PcOk p := fun p hp => (kc p hp).1
        simp only [gName, List.set]
        refine ⟨Nat.zero_le _, fun Nw nNw => ?_⟩
        have Nb := S.ne nNw
        have T := (St8.start S.B S.tb).put (o := .lst []) nNw
        have hN : upd HK Nw (.lst []) Nw = some (.lst []) := upd_same
        have sK := same_upd (o := .lst []) nNw
        have sh1 := pcs_shaped kc1
        refine ⟨_, rfl, Nat.zero_le _, fun e ne => ⟨_, _, .lst (SqL.of (same_upd ne _ _ (sK _ _ hE))) (dpAll_same (same_upd ne) (dpAll_same sK dc)), .lst (SqL.of upd_same) .nil, sh1, PySem.W.ke_shaped_ints [], _, rfl, ite_te (fun x Hx => x = V.int (lastF cs) ∧ Same (upd HK Nw (.lst [])) Hx) (fun Q1 kk2 hh => ?_) (fun Q1 kk2 hh => ?_) ?_⟩⟩
        · have hcs : cs ≠ [] := fun z => by rw [z] at hh; cases hh
          obtain ⟨a, r, ea, ha⟩ := last_at dc hcs
          have s2 := sK.trans (same_upd (o := .lst []) ne)
          refine ⟨_, rfl, _, rfl, Ea, xs, -1, _, rfl, rfl, SqL.of (s2 _ _ hE), ea, a, _, 1, _, rfl, rfl, same_tup s2 ha, rfl, kk2 _ _ ⟨rfl, same_upd ne⟩⟩
        · have hcs : cs = [] := by
            cases cs with
            | nil => rfl
            | cons _ _ => cases hh
          exact kk2 _ _ ⟨by rw [hcs]; rfl, same_upd ne⟩
        rintro x HL ⟨rfl, sL⟩
        have T := T.same sL
        have hN := sL _ _ hN
        generalize lastF cs = lst at hg ⊢
        refine ⟨_, _, rfl, ?_⟩
        simp only [List.set]
        have hG0 := S.at Gb hG
        refine ⟨_, rfl, _, rfl, G, Za, _, _, rfl, .inl ⟨SqL.of (T.at Gb hG0), SqL.of (T.at Zb hZ), ?_⟩⟩
        have lzx : ((grpF cl).map fun zs => V.int (g zs)).length = gx.length := by rw [List.length_map, lgx]
        have fR := S.at Rb fR
        have hW := S.at Wb hW
        have hD := S.at Db hD
        have dw := wn_nl S.nl dw
        have dk := kd_nl S.nl dk
        have pr : Paired (GrpAt b HK) gx (grpF cl) := paired_imp (fun v zs ⟨g, h1, h2, h3⟩ => ⟨g, h1, h2, S.at h2 h3⟩) pr
        refine for_it (walk_zip (xs := gx) (ys := (grpF cl).map fun zs => V.int (g zs)) (n := gx.length) (by rw [lzx, Nat.min_self])) (fun i σ Hx => ∃ v12 v16 v17 v18, σ = [some (V.ref b), some (V.ref pA), some (V.ref R), some (V.ref D), some (V.ref C), some (V.ref W), some (V.int (0 + (j : Int))), v7, some (V.int M), some (V.ref Ea), some (V.str (bothK ks ws).shown), some (V.ref G), v12, some (V.ref Za), some (V.ref Nw), some (V.int lst), v16, v17, v18, none, none, none] ∧ St8 Pt b HK n Hx ∧ Hx Nw = some (.lst (((grpF cl).take i).map fun zs => V.int (lackingF cs (dueG ks ws zs)))))
          ⟨_, _, _, _, rfl, T, hN⟩ (fun i σ Hx _ h => by obtain ⟨_, _, _, _, _, T, _⟩ := h; exact ⟨SqL.of (T.at Gb hG0), SqL.of (T.at Zb hZ)⟩) ?_ ?_
        · clear T hN sL
          rintro i x σ Hx Hy hi ⟨v12, v16, v17, v18, rfl, T, hN⟩ ⟨t, x1, y1, rfl, nt, rfl, gx1, gy⟩
          have gx1 : gx[i]? = some x1 := gx1
          have gy : ((grpF cl).map fun zs => V.int (g zs))[i]? = some y1 := gy
          obtain ⟨zs, gz, gg, rfl, ggb, hgg⟩ := paired_at pr gx1
          rw [List.getElem?_map, gz] at gy
          cases gy
          have st := same_upd (o := .tup [V.ref gg, .int (g zs)]) nt
          have ht : upd Hx t (.tup [V.ref gg, .int (g zs)]) t = some (.tup [V.ref gg, .int (g zs)]) := upd_same
          have T := T.same st
          have hN := st _ _ hN
          generalize upd Hx t (.tup [V.ref gg, .int (g zs)]) = H1 at ht T hN ⊢
          refine ⟨t, _, rfl, .inl (.inl ht), rfl, _, _, rfl, _, _, rfl, rfl, ?_⟩
          clear st nt ht
          simp only [gName, gCons, gNil, List.set]
          refine ⟨_, rfl, _, rfl, _, rfl, D, W, gg, zs, kx, bx, ks, ws, rfl, SqL.of (T.at Db hD), SqL.of (T.at Wb hW), SqL.of (T.at ggb hgg), kd_nl T.nl dk, wn_nl T.nl dw, by omega, by omega, kwm, fun H2 O us2 s2 nO hO dO => ?_⟩
          have T := T.same s2
          have hN := s2 _ _ hN
          clear s2 nO
          simp only [gName, List.set]
          have lO : (dueG ks ws zs).length ≤ 5 := Nat.le_trans (dueG_len _ _ _) lw5
          have lkc := hg zs
          have kdz := kd3 zs
          have kdz1 := kd1 zs
          refine seq_mid (fun σ Hx => σ = [some (V.ref b), some (V.ref pA), some (V.ref R), some (V.ref D), some (V.ref C), some (V.ref W), some (V.int (0 + (j : Int))), v7, some (V.int M), some (V.ref Ea), some (V.str (bothK ks ws).shown), some (V.ref G), some (V.ref gg), some (V.ref Za), some (V.ref Nw), some (V.int lst), some (V.int (g zs)), some (V.ref O), v18, none, none, none] ∧ Same H2 Hx) (fun N hN2 => ?_) (fun σ Hx h => ?_)
          · refine ⟨_, rfl, _, _, rfl, .inl ⟨_, SqL.of (T.at ggb hgg), rfl⟩, rfl, _, rfl, ite2 (fun h1 => ?_) (fun h1 => ?_)⟩
            · have h1 : zs.length = 1 := by have := V.int.inj (of_decide_eq_true h1); rw [List.length_map] at this; omega
              obtain ⟨z, rfl⟩ := List.length_eq_one_iff.mp h1
              refine ⟨_, rfl, D, _, rfl, .inl ⟨SqL.of (T.at Db hD), fun p2 np2 => ?_⟩⟩
              have sp := same_upd (o := .tup kx) np2
              have hp : upd H2 p2 (.tup kx) p2 = some (.tup kx) := upd_same
              have T := T.same sp
              have hO := sp _ _ hO
              have dO := dpAll_same sp dO
              generalize upd H2 p2 (.tup kx) = H3 at sp hp T hO dO ⊢
              refine ⟨_, rfl, _, rfl, gg, _, 0, _, rfl, rfl, SqL.of (T.at ggb hgg), (show atI ([z].map V.str) 0 = some (.str z) from rfl), ?_⟩
              refine ⟨p2, W, z, kx, bx, ks, ws, rfl, .inl (.inl hp), SqL.of (T.at Wb hW), kd_nl T.nl dk, wn_nl T.nl dw, by omega, by omega, kwm, fun H4 L us3 s3 nL hL dL l20 => ?_⟩
              rw [dueG_one'] at dO kdz1
              refine ⟨_, rfl, _, _, .lst (SqL.of hL) dL, .lst (SqL.of (s3 _ _ hO)) (dpAll_same s3 dO), pcs_shaped kdz1, pcs_shaped kdz1, _, rfl, ?_⟩
              rw [pcs_refl kdz1]
              exact iteF (hN2 _ _ ⟨rfl, sp.trans s3⟩)
            · exact iteF (hN2 _ _ ⟨rfl, Same.refl _⟩)
          obtain ⟨rfl, s2⟩ := h
          have T := T.same s2
          have hN := s2 _ _ hN
          have hO := s2 _ _ hO
          have dO := dpAll_same s2 dO
          refine ⟨_, rfl, _, rfl, _, rfl, _, rfl, _, rfl, (by show 2 ≤ sizeLine; decide), fun t nt => ?_⟩
          have st := same_upd (o := .tup [.int (g zs), .int lst]) nt
          have T := T.same st
          have hN := st _ _ hN
          refine ⟨Ea, O, t, M, g zs, lst, xs, us2, cs, dueG ks ws zs, rfl, T.at Eb hE, st _ _ hO, upd_same, pcs_nl T.nl dc, dpAll_same st dO, ⟨by omega, kc⟩, ⟨lO, kdz⟩, M1, M2, lkc.1, lkc.2, T.tb, fun Hq xq tq => ?_⟩
          have T := T.ext xq tq
          have hN := xq _ _ hN fun _ z => by cases z
          simp only [gName, List.set]
          refine ⟨_, rfl, rfl, _, rfl, iteF ?_⟩
          refine ⟨_, rfl, .inl ⟨rfl, _, SqL.of hN⟩, _, rfl, Nw, _, _, rfl, rfl, hN, (by rw [List.length_map, List.length_take, sizeLine_eq]; omega), ?_⟩
          refine ⟨_, _, _, _, rfl, T.wr hN nNw Nb, ?_⟩
          rw [upd_same, List.take_add_one, gz, Option.toList_some, List.map_append]; rfl
        rintro σ Hx ⟨v12, v16, v17, v18, rfl, T, hN⟩
        rw [lgx, List.take_length] at hN
        have hN2 : Hx Nw = some (.lst (((grpF cl).map fun zs => lackingF cs (dueG ks ws zs)).map V.int)) := by rw [hN, List.map_map]; rfl
        refine ⟨_, rfl, Nw, _, rfl, SqL.of hN2, (by rw [List.length_map]; unfold grpF; rw [List.length_append]; show 0 < _ + 1; omega), fun m hm hx => ?_⟩
        have em := now_max kc1 kd1 lws hm hx
        refine ⟨_, rfl, _, rfl, Nw, _, -1, _, rfl, rfl, SqL.of hN, grp_last cl _, ?_⟩
        subst em
        refine ⟨rfl, _, rfl, iteNS rfl ?_⟩
        clear hm hx hN2
        refine ⟨_, rfl, _, rfl, (by show 2 ≤ sizeLine; decide), fun a5 na5 => ?_⟩
        have su := same_upd (o := .lst [.ref D, .ref W]) na5
        have T := T.same su
        have hN := su _ _ hN
        refine ⟨a5, _, rfl, bth upd_same (T.at Db hD) (T.at Wb hW) (kd_nl T.nl dk) (wn_nl T.nl dw), gd_fineW (by decide) _ b4.t.g, Nat.le_trans b4.t.d (by decide), Nat.le_trans b4.t.c (by decide), _, rfl, rfl, _, rfl, iteNS rfl ?_⟩
        generalize upd Hx a5 (.lst [.ref D, .ref W]) = H1 at T hN ⊢
        clear su na5
        refine ⟨_, rfl, ?_⟩
        simp only [gName, List.set]
        have fR := T.at Rb fR
        refine ⟨_, rfl, _, rfl, _, rfl, _, rfl, _, _, rfl, .inl ⟨_, SqL.of fR, rfl⟩, b, ((rs.map V.int).length : Nat), _, rfl, by rw [List.length_map]; have := rok.1; omega, by rw [List.length_map]; have := rok.2.1; omega, T.B, by omega, fun HA r r0 r1 BA sA => ?_⟩
        rw [List.length_map] at r1
        have fR := sm_at sA (by simp [Rb]) fR
        have hN := sm_at sA (by simp [Nb]) hN
        have T := T.draw BA sA
        obtain ⟨k, rfl⟩ : ∃ k : Nat, r = (k : Int) := ⟨r.toNat, by omega⟩
        have hk : k < rs.length := by omega
        have hr9 := rok.2.2 _ (List.getElem_mem hk)
        refine ⟨R, _, k, .int rs[k], rfl, rfl, SqL.of fR, atI_nat (by rw [List.getElem?_map, List.getElem?_eq_getElem hk]; rfl), _, rfl, b, 4, _, rfl, (by decide), (by decide), T.B, by omega, fun HB p p0 p1 BB sB => ⟨(by show 2 ≤ sizeLine; decide), fun t nt => ⟨(by show 1 ≤ sizeLine; decide), fun l nl => ?_⟩⟩⟩
        generalize rs[k] = rk at hr9 nl ⊢
        have hN := sm_at sB (by simp [Nb]) hN
        have T := T.draw BB sB
        have s1 := same_upd (o := .tup [.int rk, .int p]) nt
        have s2 := same_upd (o := .lst [.ref t]) nl
        have sa := s1.trans s2
        have ht : upd (upd HB t (.tup [.int rk, .int p])) l (.lst [.ref t]) t = some (.tup [.int rk, .int p]) := s2 _ _ upd_same
        have T := T.same sa
        have hN := sa _ _ hN
        have lxs : xs.length = cs.length := dpAll_map_len dc
        refine ⟨Ea, l, xs, [.ref t], rfl, rfl, T.at Eb hE, upd_same, (by rw [sizeLine_eq]; show _ + 1 ≤ _; omega), fun E2 nE2 => ?_⟩
        generalize upd (upd HB t (.tup [.int rk, .int p])) l (.lst [.ref t]) = H2 at ht T hN nE2 ⊢
        have s3 := same_upd (o := .lst (xs ++ [.ref t])) nE2
        have E2b := T.ne nE2
        have T := T.same s3
        have hp : PcOk (rk, p) := ⟨hr9.1, hr9.2, p0, by show p ≤ _; omega⟩
        refine ⟨_, _, _, _, _, _, _, _, _, E2, Nw, xs ++ [.ref t], cs ++ [(rk, p)], fun zs => lackingF cs (dueG ks ws zs), rfl, S.trans T, by omega, E2b, upd_same, ?_, by rw [List.length_append, lc]; rfl, fun x hx => ?_, Nb, s3 _ _ hN, fun zs => ?_⟩
        · rw [List.map_append]
          exact dpAll_app (pcs_nl T.nl dc) (.cons (.tup (.inl (.inl (s3 _ _ ht))) (.cons (.int _) (.cons (.int _) .nil))) .nil)
        · rcases List.mem_append.mp hx with h | h
          · exact kc x h
          · rw [List.mem_singleton.mp h]; exact ⟨hp, by show p ≤ 3; omega⟩
        · have h := lack_more kc1 (kd1 zs) hp
          have el : lastF (cs ++ [(rk, p)]) = p := by unfold lastF; rw [List.getLast?_append]; rfl
          rw [el]
          exact h
      · rintro σ H9 ⟨v6, v7, v12, v14, v15, v16, v17, v18, n, Ea, Za, xs, cs, g, rfl, S2, _⟩
        exact q _ _ (SH.trans S2)

end
end Pot






namespace Pot
open PySem PySem.Spec PyProof.Rows L2
section
variable {P : Program} {w : World} {K : PySem.W.Frag} {mg : Str → Option Value} {base : Heap}
abbrev s_law : Stmt := topS 23
def n_law : List Str := ["_law_script", "_law_k"]
theorem sc_law : FnScope n_law ["_law_script"] (defScope s_law) := ⟨rfl, rfl, rfl, by decide +kernel, rfl, by decide +kernel, by decide +kernel⟩
def spLaw (K : PySem.W.Frag) (Pt : Addr) : Sp := fun vs H Q _ => ∃ (a : Addr) (ns : List Int), vs = [.ref a] ∧ SqL K H a (ns.map V.int) ∧ ns.length ≤ 63 ∧ LamX.Tabs [(Pt, qShared)] H ∧ ∀ H', Q (.bl true) H'
theorem ok_law {f Pt : Addr} {fd : FuncData} {k : Nat} (F : Fun K "law" "law" s_law f fd) (T : Txt mg) (c__law_begin : Cl P w K mg base (k + 1) "_law_begin" (spBegin K)) (c__law_right : ClG P w K mg base (k + 9) "_law_right" [] (spRight8 Pt)) : FnG P w K mg base (k + 10) f fd ["_law_script"] (spLaw K Pt) := by
  refine okG F sc_law (fun vs H Q E h => ?_) (fun cdv A outer s H vs Q gd hr h => ?_)
  · obtain ⟨a, ns, rfl, _⟩ := h
    rfl
  · obtain ⟨a, ns, rfl, hS, h63, tb, q⟩ := h
    have nd := sc_law.nd
    /- 0 _law_script, 1 _law_k -/
    refine ⟨_, (pss_one (ps_ret (pe_callB (kc_all (K := K)) (by rfl) T.all (by decide +kernel) (pa_cons (pe_lc (own := [("_law_k", 1)]) rfl nd (pi_range1 (by rfl) T.range (pa_cons (pe_op op_add pe_int (pe_callB (call_min2 rfl) (by rfl) T.min (by decide +kernel) (pa_cons pe_int (pa_cons (pe_callB (kc_len (K := K)) (by rfl) T.len PySem.boot_len (pa_cons (pv 0) pa_nil)) pa_nil)))) pa_nil)) (blkOk_by (N := n_law) (sc := defScope s_law) (by decide +kernel)) (fun _ _ _ _ _ => (pg_name (i := 1) nd rfl (.inl rfl))) (fun _ _ _ _ _ => pts_nil) (fun _ _ _ _ _ => (pe_clG c__law_right hr gd (by omega) (by rfl) (pa_cons (pe_cl c__law_begin hr (by omega) (by rfl) (pa_cons (pv 0) (pa_cons (pv 1) pa_nil))) pa_nil)))) pa_nil)))), ?_⟩
    refine ⟨_, rfl, _, _, rfl, .inl ⟨_, hS, rfl⟩, _, _, rfl, _, _, rfl, rfl, _, rfl, (by split <;> rw [List.length_map] at * <;> omega), (by split <;> rw [List.length_map] at * <;> omega), fun D nD => ?_⟩
    have nt : ∀ {xs : List V} (ps : Array Value), HO.lst xs ≠ .tbl ps := fun ps z => by cases z
    refine lc_it walk_range (fun i Hx => LamX.ExtN H Hx ∧ LamX.Tabs [(Pt, qShared)] Hx ∧ ∃ us : List Bool, Hx D = some (.lst (us.map V.bl)) ∧ us.length = i ∧ us.all id = true) ⟨.of (same_upd nD), tb.ext (same_upd nD), [], upd_same, rfl, rfl⟩ (fun _ _ _ _ => trivial) ?_ ?_
    · rintro i x Hx Hy hi ⟨xx, tx, us, hD, lu, au⟩ ⟨rfl, rfl⟩
      have hi5 : i < 5 := by
        have h2 : (1 + if ((List.map V.int ns).length : Int) < 4 then ((List.map V.int ns).length : Int) else 4) ≤ 5 := by split <;> omega
        omega
      refine ⟨rfl, tYes_at ?_⟩
      rw [if_pos rfl]
      refine ⟨_, rfl, _, rfl, a, ns, i, (by show [_, V.int (0 + (i : Int))] = _; rw [Int.zero_add]), RLam.sqL_ext hS xx, by omega, fun H4 b s4 B4 nb => ⟨b, rfl, B4, tx.ext s4, fun H' n S => ?_⟩⟩
      have Db : D ≠ b := fun z => by rw [z, nb] at hD; cases hD
      have hD' := S.at Db (s4 _ _ hD)
      refine ⟨_, hD', (by rw [List.length_map, lu, sizeLine_eq]; omega), fun y o e n2 => ?_, tabs_sm (S := [D]) (fun z hz => ?_) (sm_wr (List.mem_singleton.mpr rfl)) S.tb, us ++ [true], by rw [upd_same, List.map_append]; rfl, by rw [List.length_append, lu]; rfl, by rw [List.all_append, au]; rfl⟩
      · have yD : y ≠ D := fun z => by rw [z, nD] at e; cases e
        have e1 := xx y o e n2
        have yb : y ≠ b := fun z => by rw [z, nb] at e1; cases e1
        rw [upd_ne yD]
        exact S.x y o yb (s4 _ _ e1) n2
      · rw [List.mem_singleton.mp hz]; exact ⟨_, hD'⟩
    rintro Hx ⟨xx, tx, us, hD, lu, au⟩
    refine ⟨D, us, rfl, SqL.of hD, ?_⟩
    rw [au]
    exact q _

end
end Pot

namespace Pot
open PySem PySem.Spec PyProof.Rows L2
set_option maxHeartbeats 4000000 in
theorem all_mk {l : PySem.W.OpenLaw} {w : World} {K : PySem.W.Frag} {h : Heap} {mg : Str → Option Value} {fa : Addr} (X : K.In h) (G : h.Ns mainGlobals mg) (hfa : mg "law" = some (.ref fa))
    {f1 : Addr} {od1 an1 : Option Addr} {sl1 : Array (Option Value)} {oc1 kV1 dc1 pm1 cd1 ct1 : Value}
    {f2 : Addr} {od2 an2 : Option Addr} {sl2 : Array (Option Value)} {oc2 kV2 dc2 pm2 cd2 ct2 : Value}
    {f3 : Addr} {od3 an3 : Option Addr} {sl3 : Array (Option Value)} {oc3 kV3 dc3 pm3 cd3 ct3 : Value}
    {f4 cT4 pT4 : Addr} {od4 an4 oe4 : Option Addr} {sl4 sm4 : Array (Option Value)} {vT4 : Array Value} {oc4 kV4 dc4 pm4 ct4 of4 : Value}
    {f5 : Addr} {od5 an5 : Option Addr} {sl5 : Array (Option Value)} {oc5 kV5 dc5 pm5 cd5 ct5 : Value}
    {f6 : Addr} {od6 an6 : Option Addr} {sl6 : Array (Option Value)} {oc6 kV6 dc6 pm6 cd6 ct6 : Value}
    {f7 : Addr} {od7 an7 : Option Addr} {sl7 : Array (Option Value)} {oc7 kV7 dc7 pm7 cd7 ct7 : Value}
    {f8 : Addr} {od8 an8 : Option Addr} {sl8 : Array (Option Value)} {oc8 kV8 dc8 pm8 cd8 ct8 : Value}
    {f9 : Addr} {od9 an9 : Option Addr} {sl9 : Array (Option Value)} {oc9 kV9 dc9 pm9 cd9 ct9 : Value}
    {f10 : Addr} {od10 an10 : Option Addr} {sl10 : Array (Option Value)} {oc10 kV10 dc10 pm10 cd10 ct10 : Value}
    {f11 : Addr} {od11 an11 : Option Addr} {sl11 : Array (Option Value)} {oc11 kV11 dc11 pm11 cd11 ct11 : Value}
    {f12 : Addr} {od12 an12 : Option Addr} {sl12 : Array (Option Value)} {oc12 kV12 dc12 pm12 cd12 ct12 : Value}
    {f13 : Addr} {od13 an13 : Option Addr} {sl13 : Array (Option Value)} {oc13 kV13 dc13 pm13 cd13 ct13 : Value}
    {f14 : Addr} {od14 an14 : Option Addr} {sl14 : Array (Option Value)} {oc14 kV14 dc14 pm14 cd14 ct14 : Value}
    {f15 : Addr} {od15 an15 : Option Addr} {sl15 : Array (Option Value)} {oc15 kV15 dc15 pm15 cd15 ct15 : Value}
    {f16 : Addr} {od16 an16 : Option Addr} {sl16 : Array (Option Value)} {oc16 kV16 dc16 pm16 cd16 ct16 : Value}
    {f17 : Addr} {od17 an17 : Option Addr} {sl17 : Array (Option Value)} {oc17 kV17 dc17 pm17 cd17 ct17 : Value}
    {f18 : Addr} {od18 an18 : Option Addr} {sl18 : Array (Option Value)} {oc18 kV18 dc18 pm18 cd18 ct18 : Value}
    {f19 : Addr} {od19 an19 : Option Addr} {sl19 : Array (Option Value)} {oc19 kV19 dc19 pm19 cd19 ct19 : Value}
    {f20 : Addr} {od20 an20 : Option Addr} {sl20 : Array (Option Value)} {oc20 kV20 dc20 pm20 cd20 ct20 : Value}
    {f21 : Addr} {od21 an21 : Option Addr} {sl21 : Array (Option Value)} {oc21 kV21 dc21 pm21 cd21 ct21 : Value}
    (a1 : PySem.W.nsIn K mainGlobals "is_number" = some (some (.ref f1))) (l1 : K.lookup f1 = some ⟨oc1, od1, .func (PySem.W.fnOf "is_number" "is_number" (defArgs s_is_number) (defBody s_is_number) (defScope s_is_number) .none kV1 dc1 pm1 an1 cd1 ct1), sl1⟩) (c1 : PySem.W.codeIn K cd1 "is_number" = true) (k1 : PySem.W.keepIn K (.ref f1) = true)
    (a2 : PySem.W.nsIn K mainGlobals "is_row" = some (some (.ref f2))) (l2 : K.lookup f2 = some ⟨oc2, od2, .func (PySem.W.fnOf "is_row" "is_row" (defArgs s_is_row) (defBody s_is_row) (defScope s_is_row) .none kV2 dc2 pm2 an2 cd2 ct2), sl2⟩) (c2 : PySem.W.codeIn K cd2 "is_row" = true) (k2 : PySem.W.keepIn K (.ref f2) = true)
    (a3 : PySem.W.nsIn K mainGlobals "is_rising" = some (some (.ref f3))) (l3 : K.lookup f3 = some ⟨oc3, od3, .func (PySem.W.fnOf "is_rising" "is_rising" (defArgs s_is_rising) (defBody s_is_rising) (defScope s_is_rising) .none kV3 dc3 pm3 an3 cd3 ct3), sl3⟩) (c3 : PySem.W.codeIn K cd3 "is_rising" = true) (k3 : PySem.W.keepIn K (.ref f3) = true)
    (a4 : PySem.W.nsIn K mainGlobals "shared" = some (some (.ref f4))) (l4 : K.lookup f4 = some ⟨oc4, od4, .func (PySem.W.fnOf "shared" "shared" (defArgs s_shared) (defBody s_shared) (defScope s_shared) .none kV4 dc4 pm4 an4 (.ref cT4) ct4), sl4⟩) (c4 : PySem.W.codeIn K (.ref cT4) "shared" = true) (k4 : PySem.W.keepIn K (.ref f4) = true)
    (m4 : K.lookup cT4 = some ⟨of4, oe4, .fields vT4, sm4⟩) (u4 : vT4[11]? = some (.ref pT4)) (e4 : PySem.W.codeHdIn K cT4 pT4 = true) (n4 : K.lookup pT4 = none) (h4 : h.get? pT4 = some (PySem.W.tabObj #[]))
    (a5 : PySem.W.nsIn K mainGlobals "made_of" = some (some (.ref f5))) (l5 : K.lookup f5 = some ⟨oc5, od5, .func (PySem.W.fnOf "made_of" "made_of" (defArgs s_made_of) (defBody s_made_of) (defScope s_made_of) .none kV5 dc5 pm5 an5 cd5 ct5), sl5⟩) (c5 : PySem.W.codeIn K cd5 "made_of" = true) (k5 : PySem.W.keepIn K (.ref f5) = true)
    (a6 : PySem.W.nsIn K mainGlobals "lacking_rank" = some (some (.ref f6))) (l6 : K.lookup f6 = some ⟨oc6, od6, .func (PySem.W.fnOf "lacking_rank" "lacking_rank" (defArgs s_lacking_rank) (defBody s_lacking_rank) (defScope s_lacking_rank) .none kV6 dc6 pm6 an6 cd6 ct6), sl6⟩) (c6 : PySem.W.codeIn K cd6 "lacking_rank" = true) (k6 : PySem.W.keepIn K (.ref f6) = true)
    (a7 : PySem.W.nsIn K mainGlobals "lack_by" = some (some (.ref f7))) (l7 : K.lookup f7 = some ⟨oc7, od7, .func (PySem.W.fnOf "lack_by" "lack_by" (defArgs s_lack_by) (defBody s_lack_by) (defScope s_lack_by) .none kV7 dc7 pm7 an7 cd7 ct7), sl7⟩) (c7 : PySem.W.codeIn K cd7 "lack_by" = true) (k7 : PySem.W.keepIn K (.ref f7) = true)
    (a8 : PySem.W.nsIn K mainGlobals "sum_from" = some (some (.ref f8))) (l8 : K.lookup f8 = some ⟨oc8, od8, .func (PySem.W.fnOf "sum_from" "sum_from" (defArgs s_sum_from) (defBody s_sum_from) (defScope s_sum_from) .none kV8 dc8 pm8 an8 cd8 ct8), sl8⟩) (c8 : PySem.W.codeIn K cd8 "sum_from" = true) (k8 : PySem.W.keepIn K (.ref f8) = true)
    (a9 : PySem.W.nsIn K mainGlobals "shows_share" = some (some (.ref f9))) (l9 : K.lookup f9 = some ⟨oc9, od9, .func (PySem.W.fnOf "shows_share" "shows_share" (defArgs s_shows_share) (defBody s_shows_share) (defScope s_shows_share) .none kV9 dc9 pm9 an9 cd9 ct9), sl9⟩) (c9 : PySem.W.codeIn K cd9 "shows_share" = true) (k9 : PySem.W.keepIn K (.ref f9) = true)
    (a10 : PySem.W.nsIn K mainGlobals "is_share" = some (some (.ref f10))) (l10 : K.lookup f10 = some ⟨oc10, od10, .func (PySem.W.fnOf "is_share" "is_share" (defArgs s_is_share) (defBody s_is_share) (defScope s_is_share) .none kV10 dc10 pm10 an10 cd10 ct10), sl10⟩) (c10 : PySem.W.codeIn K cd10 "is_share" = true) (k10 : PySem.W.keepIn K (.ref f10) = true)
    (a11 : PySem.W.nsIn K mainGlobals "keeps_to" = some (some (.ref f11))) (l11 : K.lookup f11 = some ⟨oc11, od11, .func (PySem.W.fnOf "keeps_to" "keeps_to" (defArgs s_keeps_to) (defBody s_keeps_to) (defScope s_keeps_to) .none kV11 dc11 pm11 an11 cd11 ct11), sl11⟩) (c11 : PySem.W.codeIn K cd11 "keeps_to" = true) (k11 : PySem.W.keepIn K (.ref f11) = true)
    (a12 : PySem.W.nsIn K mainGlobals "wanted_of" = some (some (.ref f12))) (l12 : K.lookup f12 = some ⟨oc12, od12, .func (PySem.W.fnOf "wanted_of" "wanted_of" (defArgs s_wanted_of) (defBody s_wanted_of) (defScope s_wanted_of) .none kV12 dc12 pm12 an12 cd12 ct12), sl12⟩) (c12 : PySem.W.codeIn K cd12 "wanted_of" = true) (k12 : PySem.W.keepIn K (.ref f12) = true)
    (a13 : PySem.W.nsIn K mainGlobals "_law_begin" = some (some (.ref f13))) (l13 : K.lookup f13 = some ⟨oc13, od13, .func (PySem.W.fnOf "_law_begin" "_law_begin" (defArgs s__law_begin) (defBody s__law_begin) (defScope s__law_begin) .none kV13 dc13 pm13 an13 cd13 ct13), sl13⟩) (c13 : PySem.W.codeIn K cd13 "_law_begin" = true) (k13 : PySem.W.keepIn K (.ref f13) = true)
    (a14 : PySem.W.nsIn K mainGlobals "_law_take" = some (some (.ref f14))) (l14 : K.lookup f14 = some ⟨oc14, od14, .func (PySem.W.fnOf "_law_take" "_law_take" (defArgs s__law_take) (defBody s__law_take) (defScope s__law_take) .none kV14 dc14 pm14 an14 cd14 ct14), sl14⟩) (c14 : PySem.W.codeIn K cd14 "_law_take" = true) (k14 : PySem.W.keepIn K (.ref f14) = true)
    (a15 : PySem.W.nsIn K mainGlobals "_law_splits" = some (some (.ref f15))) (l15 : K.lookup f15 = some ⟨oc15, od15, .func (PySem.W.fnOf "_law_splits" "_law_splits" (defArgs s__law_splits) (defBody s__law_splits) (defScope s__law_splits) .none kV15 dc15 pm15 an15 cd15 ct15), sl15⟩) (c15 : PySem.W.codeIn K cd15 "_law_splits" = true) (k15 : PySem.W.keepIn K (.ref f15) = true)
    (a16 : PySem.W.nsIn K mainGlobals "_law_most" = some (some (.ref f16))) (l16 : K.lookup f16 = some ⟨oc16, od16, .func (PySem.W.fnOf "_law_most" "_law_most" (defArgs s__law_most) (defBody s__law_most) (defScope s__law_most) .none kV16 dc16 pm16 an16 cd16 ct16), sl16⟩) (c16 : PySem.W.codeIn K cd16 "_law_most" = true) (k16 : PySem.W.keepIn K (.ref f16) = true)
    (a17 : PySem.W.nsIn K mainGlobals "_law_orders" = some (some (.ref f17))) (l17 : K.lookup f17 = some ⟨oc17, od17, .func (PySem.W.fnOf "_law_orders" "_law_orders" (defArgs s__law_orders) (defBody s__law_orders) (defScope s__law_orders) .none kV17 dc17 pm17 an17 cd17 ct17), sl17⟩) (c17 : PySem.W.codeIn K cd17 "_law_orders" = true) (k17 : PySem.W.keepIn K (.ref f17) = true)
    (a18 : PySem.W.nsIn K mainGlobals "_law_times" = some (some (.ref f18))) (l18 : K.lookup f18 = some ⟨oc18, od18, .func (PySem.W.fnOf "_law_times" "_law_times" (defArgs s__law_times) (defBody s__law_times) (defScope s__law_times) .none kV18 dc18 pm18 an18 cd18 ct18), sl18⟩) (c18 : PySem.W.codeIn K cd18 "_law_times" = true) (k18 : PySem.W.keepIn K (.ref f18) = true)
    (a19 : PySem.W.nsIn K mainGlobals "_law_colour_right" = some (some (.ref f19))) (l19 : K.lookup f19 = some ⟨oc19, od19, .func (PySem.W.fnOf "_law_colour_right" "_law_colour_right" (defArgs s__law_colour_right) (defBody s__law_colour_right) (defScope s__law_colour_right) .none kV19 dc19 pm19 an19 cd19 ct19), sl19⟩) (c19 : PySem.W.codeIn K cd19 "_law_colour_right" = true) (k19 : PySem.W.keepIn K (.ref f19) = true)
    (a20 : PySem.W.nsIn K mainGlobals "_law_right" = some (some (.ref f20))) (l20 : K.lookup f20 = some ⟨oc20, od20, .func (PySem.W.fnOf "_law_right" "_law_right" (defArgs s__law_right) (defBody s__law_right) (defScope s__law_right) .none kV20 dc20 pm20 an20 cd20 ct20), sl20⟩) (c20 : PySem.W.codeIn K cd20 "_law_right" = true) (k20 : PySem.W.keepIn K (.ref f20) = true)
    (a21 : PySem.W.nsIn K mainGlobals "law" = some (some (.ref f21))) (l21 : K.lookup f21 = some ⟨oc21, od21, .func (PySem.W.fnOf "law" "law" (defArgs s_law) (defBody s_law) (defScope s_law) .none kV21 dc21 pm21 an21 cd21 ct21), sl21⟩) (c21 : PySem.W.codeIn K cd21 "law" = true) (k21 : PySem.W.keepIn K (.ref f21) = true)
    (z1 : PySem.W.nsIn K mainGlobals "len" = some none)
    (z2 : PySem.W.nsIn K mainGlobals "divmod" = some none)
    (z3 : PySem.W.nsIn K mainGlobals "range" = some none)
    (z4 : PySem.W.nsIn K mainGlobals "sum" = some none)
    (z5 : PySem.W.nsIn K mainGlobals "all" = some none)
    (z6 : PySem.W.nsIn K mainGlobals "any" = some none)
    (z7 : PySem.W.nsIn K mainGlobals "isinstance" = some none)
    (z8 : PySem.W.nsIn K mainGlobals "str" = some none)
    (z9 : PySem.W.nsIn K mainGlobals "int" = some none)
    (z10 : PySem.W.nsIn K mainGlobals "list" = some none)
    (z11 : PySem.W.nsIn K mainGlobals "tuple" = some none)
    (z12 : PySem.W.nsIn K mainGlobals "bool" = some none)
    (z13 : PySem.W.nsIn K mainGlobals "zip" = some none)
    (z14 : PySem.W.nsIn K mainGlobals "set" = some none)
    (z15 : PySem.W.nsIn K mainGlobals "sorted" = some none)
    (z16 : PySem.W.nsIn K mainGlobals "enumerate" = some none)
    (z17 : PySem.W.nsIn K mainGlobals "repr" = some none)
    (z18 : PySem.W.nsIn K mainGlobals "min" = some none)
    (z19 : PySem.W.nsIn K mainGlobals "max" = some none)
    (z20 : PySem.W.nsIn K mainGlobals "abs" = some none)
    (zD : PySem.W.nsIn K mainGlobals "dict" = some none)
    : ∃ (fd : FuncData) (cs : List (Addr × Addr)) (sp : Sp), (∀ p ∈ cs, h.get? p.2 = some (PySem.W.tabObj #[])) ∧ (∀ p ∈ cs, K.lookup p.2 = none) ∧ (∀ p ∈ cs, PySem.W.CodeHd h p.1 p.2) ∧ (∀ (s : Shared) (v : Value), BindsTo s fd ⟨[v], []⟩ [("_law_script", v)]) ∧
      (∀ (H : Hp) (a : Addr) (ns : List Int), ns.length ≤ 63 → (∀ p ∈ cs, H p.2 = some (.tbl #[])) → SqL K H a (ns.map V.int) → sp [.ref a] H (fun v _ => v = .bl true) E0) ∧
      ∀ base : Heap, K.In base → base.Ns mainGlobals mg → (∀ p ∈ cs, LamX.TabB base mg p.1 p.2) → FnG l.prog w K mg base 10 fa fd ["_law_script"] sp := by
  have e := hfa.symm.trans (PySem.W.mg_of X G a21)
  cases e
  have T : Txt mg := ⟨PySem.W.mg_none_of X G z1, PySem.W.mg_none_of X G z2, PySem.W.mg_none_of X G z3, PySem.W.mg_none_of X G z4, PySem.W.mg_none_of X G z5, PySem.W.mg_none_of X G z6, PySem.W.mg_none_of X G z7, PySem.W.mg_none_of X G z8, PySem.W.mg_none_of X G z9, PySem.W.mg_none_of X G z10, PySem.W.mg_none_of X G z11, PySem.W.mg_none_of X G z12, PySem.W.mg_none_of X G z13, PySem.W.mg_none_of X G z14, PySem.W.mg_none_of X G z15, PySem.W.mg_none_of X G z16, PySem.W.mg_none_of X G z17, PySem.W.mg_none_of X G z18, PySem.W.mg_none_of X G z19, PySem.W.mg_none_of X G z20⟩
  have F1 := fun_mk (st := s_is_number) l1 c1 k1
  have b1 := F1.binds (ps := ["thing", "low", "high"]) fun _ _ _ _ _ _ us hl => match us, hl with | [_, _, _], _ => rfl
  have g1 := PySem.W.mg_of X G a1
  have F2 := fun_mk (st := s_is_row) l2 c2 k2
  have b2 := F2.binds (ps := ["thing", "size"]) fun _ _ _ _ _ _ us hl => match us, hl with | [_, _], _ => rfl
  have g2 := PySem.W.mg_of X G a2
  have F3 := fun_mk (st := s_is_rising) l3 c3 k3
  have b3 := F3.binds (ps := ["keys"]) fun _ _ _ _ _ _ us hl => match us, hl with | [_], _ => rfl
  have g3 := PySem.W.mg_of X G a3
  have F4 := fun_mk (st := s_shared) l4 c4 k4
  have b4 := F4.binds (ps := ["crews", "orders"]) fun _ _ _ _ _ _ us hl => match us, hl with | [_, _], _ => rfl
  have g4 := PySem.W.mg_of X G a4
  have F5 := fun_mk (st := s_made_of) l5 c5 k5
  have b5 := F5.binds (ps := ["crews", "orders", "order", "left"]) fun _ _ _ _ _ _ us hl => match us, hl with | [_, _, _, _], _ => rfl
  have g5 := PySem.W.mg_of X G a5
  have F6 := fun_mk (st := s_lacking_rank) l6 c6 k6
  have b6 := F6.binds (ps := ["crews", "orders", "lacking"]) fun _ _ _ _ _ _ us hl => match us, hl with | [_, _, _], _ => rfl
  have g6 := PySem.W.mg_of X G a6
  have F7 := fun_mk (st := s_lack_by) l7 c7 k7
  have b7 := F7.binds (ps := ["crews", "orders", "rank"]) fun _ _ _ _ _ _ us hl => match us, hl with | [_, _, _], _ => rfl
  have g7 := PySem.W.mg_of X G a7
  have F8 := fun_mk (st := s_sum_from) l8 c8 k8
  have b8 := F8.binds (ps := ["pairs", "rank"]) fun _ _ _ _ _ _ us hl => match us, hl with | [_, _], _ => rfl
  have g8 := PySem.W.mg_of X G a8
  have F9 := fun_mk (st := s_shows_share) l9 c9 k9
  have b9 := F9.binds (ps := ["crews", "orders", "thing"]) fun _ _ _ _ _ _ us hl => match us, hl with | [_, _, _], _ => rfl
  have g9 := PySem.W.mg_of X G a9
  have F10 := fun_mk (st := s_is_share) l10 c10 k10
  have b10 := F10.binds (ps := ["crews", "orders", "thing"]) fun _ _ _ _ _ _ us hl => match us, hl with | [_, _, _], _ => rfl
  have g10 := PySem.W.mg_of X G a10
  have F11 := fun_mk (st := s_keeps_to) l11 c11 k11
  have b11 := F11.binds (ps := ["rows", "part", "pairs"]) fun _ _ _ _ _ _ us hl => match us, hl with | [_, _, _], _ => rfl
  have g11 := PySem.W.mg_of X G a11
  have F12 := fun_mk (st := s_wanted_of) l12 c12 k12
  have b12 := F12.binds (ps := ["kinds", "wanted", "colour"]) fun _ _ _ _ _ _ us hl => match us, hl with | [_, _, _], _ => rfl
  have g12 := PySem.W.mg_of X G a12
  have F13 := fun_mk (st := s__law_begin) l13 c13 k13
  have b13 := F13.binds (ps := ["_law_script", "_law_k"]) fun _ _ _ _ _ _ us hl => match us, hl with | [_, _], _ => rfl
  have g13 := PySem.W.mg_of X G a13
  have F14 := fun_mk (st := s__law_take) l14 c14 k14
  have b14 := F14.binds (ps := ["_law_state", "_law_many"]) fun _ _ _ _ _ _ us hl => match us, hl with | [_, _], _ => rfl
  have g14 := PySem.W.mg_of X G a14
  have F15 := fun_mk (st := s__law_splits) l15 c15 k15
  have b15 := F15.binds (ps := ["_law_many", "_law_tops"]) fun _ _ _ _ _ _ us hl => match us, hl with | [_, _], _ => rfl
  have g15 := PySem.W.mg_of X G a15
  have F16 := fun_mk (st := s__law_most) l16 c16 k16
  have b16 := F16.binds (ps := ["_law_crews", "_law_orders_here"]) fun _ _ _ _ _ _ us hl => match us, hl with | [_, _], _ => rfl
  have g16 := PySem.W.mg_of X G a16
  have F17 := fun_mk (st := s__law_orders) l17 c17 k17
  have b17 := F17.binds (ps := ["_law_kinds", "_law_wanted", "_law_colours"]) fun _ _ _ _ _ _ us hl => match us, hl with | [_, _, _], _ => rfl
  have g17 := PySem.W.mg_of X G a17
  have F18 := fun_mk (st := s__law_times) l18 c18 k18
  have b18 := F18.binds (ps := ["_law_pairs", "_law_much"]) fun _ _ _ _ _ _ us hl => match us, hl with | [_, _], _ => rfl
  have g18 := PySem.W.mg_of X G a18
  have F19 := fun_mk (st := s__law_colour_right) l19 c19 k19
  have b19 := F19.binds (ps := ["_law_crews", "_law_orders_here", "_law_much", "_law_before"]) fun _ _ _ _ _ _ us hl => match us, hl with | [_, _, _, _], _ => rfl
  have g19 := PySem.W.mg_of X G a19
  have F20 := fun_mk (st := s__law_right) l20 c20 k20
  have b20 := F20.binds (ps := ["_law_state"]) fun _ _ _ _ _ _ us hl => match us, hl with | [_], _ => rfl
  have g20 := PySem.W.mg_of X G a20
  have F21 := fun_mk (st := s_law) l21 c21 k21
  refine ⟨PySem.W.fnOf "law" "law" (defArgs s_law) (defBody s_law) (defScope s_law) .none kV21 dc21 pm21 an21 cd21 ct21, [(cT4, pT4)], spLaw K pT4, (fun p hp => by
    simp only [List.mem_cons, List.not_mem_nil, or_false] at hp
    rcases hp with rfl
    · exact h4), (fun p hp => by
    simp only [List.mem_cons, List.not_mem_nil, or_false] at hp
    rcases hp with rfl
    · exact n4), (fun p hp => by
    simp only [List.mem_cons, List.not_mem_nil, or_false] at hp
    rcases hp with rfl
    · exact PySem.W.codeHd_of_K X e4), fun s v => .of_eq rfl, (fun H a ns hl hT hS => ⟨a, ns, rfl, hS, hl, (fun p hp => by
    simp only [List.mem_cons, List.not_mem_nil, or_false] at hp
    rcases hp with rfl
    · exact LamX.TabS.nil (hT (cT4, pT4) (by simp))), fun _ => rfl⟩), fun base _ _ hTB => ?_⟩
  have TB4 := hTB (cT4, pT4) (by simp)
  have L_Dct : Dct mg := PySem.W.mg_none_of X G zD
  have c__law_begin : Cl l.prog w K mg base 1 "_law_begin" ((spBegin K)) := ⟨_, _, _, ok_begin F13 T, g13, F13.kp, b13⟩
  have c__law_take : Cl l.prog w K mg base 1 "_law_take" (spTake) := ⟨_, _, _, ok_take F14 T, g14, F14.kp, b14⟩
  have c__law_orders : Cl l.prog w K mg base 1 "_law_orders" ((spOrders K)) := ⟨_, _, _, ok_orders F17 T L_Dct, g17, F17.kp, b17⟩
  have c_wanted_of : Cl l.prog w K mg base 1 "wanted_of" ((spWanted K)) := ⟨_, _, _, ok_wanted F12 T, g12, F12.kp, b12⟩
  have c_made_of : Cl l.prog w K mg base 1 "made_of" ((spMade K)) := ⟨_, _, _, ok_made F5 T, g5, F5.kp, b5⟩
  have c_sum_from : Cl l.prog w K mg base 1 "sum_from" ((spAbv K)) := ⟨_, _, _, ok_sumfrom F8 T, g8, F8.kp, b8⟩
  have c_lack_by : Cl l.prog w K mg base 2 "lack_by" ((spLack K)) := ⟨_, _, _, ok_lackby F7 T c_sum_from, g7, F7.kp, b7⟩
  have c_lacking_rank : Cl l.prog w K mg base 3 "lacking_rank" ((spLr K)) := ⟨_, _, _, ok_lr F6 T c_lack_by, g6, F6.kp, b6⟩
  have c_shared : Cl l.prog w K mg base 4 "shared" ((spShared K pT4)) := ⟨_, _, _, ok_shared F4 rfl T TB4 c_made_of c_lacking_rank, g4, F4.kp, b4⟩
  have c__law_splits : Cl l.prog w K mg base 6 "_law_splits" (spSpl K 5) := ⟨_, _, _, ok_splits (k0 := 0) F15 T b15 g15 5, g15, F15.kp, b15⟩
  have c__law_most : Cl l.prog w K mg base 7 "_law_most" ((spMostW K)) := ⟨_, _, _, ok_most F16 T c__law_splits, g16, F16.kp, b16⟩
  have c__law_times : Cl l.prog w K mg base 1 "_law_times" ((spTimes K)) := ⟨_, _, _, ok_times F18 T, g18, F18.kp, b18⟩
  have c_is_number : Cl l.prog w K mg base 1 "is_number" ((spNumD K)) := ⟨_, _, _, ok_numD F1 T, g1, F1.kp, b1⟩
  have c_is_row : Cl l.prog w K mg base 1 "is_row" ((spRow K)) := ⟨_, _, _, ok_row F2 T, g2, F2.kp, b2⟩
  have c_is_share : Cl l.prog w K mg base 2 "is_share" ((spShare K)) := ⟨_, _, _, ok_share F10 T c_is_number c_is_row, g10, F10.kp, b10⟩
  have c_is_rising : Cl l.prog w K mg base 1 "is_rising" ((spRisP K)) := ⟨_, _, _, ok_risp F3 T, g3, F3.kp, b3⟩
  have c_keeps_to : Cl l.prog w K mg base 1 "keeps_to" ((spKeeps K)) := ⟨_, _, _, ok_keeps F11 T, g11, F11.kp, b11⟩
  have c_shows_share : Cl l.prog w K mg base 3 "shows_share" ((spShows K)) := ⟨_, _, _, ok_shows F9 T c_is_share c_is_rising c_keeps_to, g9, F9.kp, b9⟩
  have c__law_colour_right : Cl l.prog w K mg base 8 "_law_colour_right" ((spCol K pT4)) := ⟨_, _, _, ok_colr F19 T c_shared c__law_most c_lack_by c__law_times c_shows_share, g19, F19.kp, b19⟩
  have c__law_right : ClG l.prog w K mg base 9 "_law_right" [] ((spRight8 pT4)) := ⟨_, _, _, [], ok_right F20 T c__law_take c__law_orders c_wanted_of c__law_colour_right, g20, F20.kp, b20, .nil⟩
  exact ok_law F21 T c__law_begin c__law_right
end Pot
open PySem PySem.W PyProof.Rows
set_option maxRecDepth 100000 in
set_option maxHeartbeats 0 in
theorem PySem.Challenge.cw_potround_k84_whole_what_is_made_of_order_holds : PySem.Challenge.rw_potround_k84_whole_what_is_made_of_order.Holds := by
  w_on; o_law; k_head; (case hw => w_witness2)
  k_fill
  refine Pot.walkGT (l := PySem.Challenge.rw_potround_k84_whole_what_is_made_of_order) (n := 63) (k := 10) (x := "_law_script") rfl (by decide) rfl ⟨rfl, by decide, by decide⟩ (fun w h Y => PySem.W.km_in_of Y) ?F
  case F =>
    intro w mg fa h Y KX G hmg
    refine' Pot.all_mk KX G hmg ?a1 ?l1 ?c1 ?k1 ?a2 ?l2 ?c2 ?k2 ?a3 ?l3 ?c3 ?k3 ?a4 ?l4 ?c4 ?k4 ?m4 ?u4 ?e4 ?n4 ?h4 ?a5 ?l5 ?c5 ?k5 ?a6 ?l6 ?c6 ?k6 ?a7 ?l7 ?c7 ?k7 ?a8 ?l8 ?c8 ?k8 ?a9 ?l9 ?c9 ?k9 ?a10 ?l10 ?c10 ?k10 ?a11 ?l11 ?c11 ?k11 ?a12 ?l12 ?c12 ?k12 ?a13 ?l13 ?c13 ?k13 ?a14 ?l14 ?c14 ?k14 ?a15 ?l15 ?c15 ?k15 ?a16 ?l16 ?c16 ?k16 ?a17 ?l17 ?c17 ?k17 ?a18 ?l18 ?c18 ?k18 ?a19 ?l19 ?c19 ?k19 ?a20 ?l20 ?c20 ?k20 ?a21 ?l21 ?c21 ?k21 ?z1 ?z2 ?z3 ?z4 ?z5 ?z6 ?z7 ?z8 ?z9 ?z10 ?z11 ?z12 ?z13 ?z14 ?z15 ?z16 ?z17 ?z18 ?z19 ?z20 ?zD
    (case a1 => k_is)
    (case l1 => k_is)
    (case c1 => k_is)
    (case k1 => k_is)
    (case a2 => k_is)
    (case l2 => k_is)
    (case c2 => k_is)
    (case k2 => k_is)
    (case a3 => k_is)
    (case l3 => k_is)
    (case c3 => k_is)
    (case k3 => k_is)
    (case a4 => k_is)
    (case l4 => k_is)
    (case c4 => k_is)
    (case k4 => k_is)
    (case m4 => k_is)
    (case u4 => rfl)
    (case e4 => first | k_is | kernel_rfl | decide +kernel)
    (case n4 => first | k_is | kernel_rfl | rfl | decide +kernel)
    (case h4 => exact PySem.W.km_tabs_of Y _ (by first | k_mem | decide))
    (case a5 => k_is)
    (case l5 => k_is)
    (case c5 => k_is)
    (case k5 => k_is)
    (case a6 => k_is)
    (case l6 => k_is)
    (case c6 => k_is)
    (case k6 => k_is)
    (case a7 => k_is)
    (case l7 => k_is)
    (case c7 => k_is)
    (case k7 => k_is)
    (case a8 => k_is)
    (case l8 => k_is)
    (case c8 => k_is)
    (case k8 => k_is)
    (case a9 => k_is)
    (case l9 => k_is)
    (case c9 => k_is)
    (case k9 => k_is)
    (case a10 => k_is)
    (case l10 => k_is)
    (case c10 => k_is)
    (case k10 => k_is)
    (case a11 => k_is)
    (case l11 => k_is)
    (case c11 => k_is)
    (case k11 => k_is)
    (case a12 => k_is)
    (case l12 => k_is)
    (case c12 => k_is)
    (case k12 => k_is)
    (case a13 => k_is)
    (case l13 => k_is)
    (case c13 => k_is)
    (case k13 => k_is)
    (case a14 => k_is)
    (case l14 => k_is)
    (case c14 => k_is)
    (case k14 => k_is)
    (case a15 => k_is)
    (case l15 => k_is)
    (case c15 => k_is)
    (case k15 => k_is)
    (case a16 => k_is)
    (case l16 => k_is)
    (case c16 => k_is)
    (case k16 => k_is)
    (case a17 => k_is)
    (case l17 => k_is)
    (case c17 => k_is)
    (case k17 => k_is)
    (case a18 => k_is)
    (case l18 => k_is)
    (case c18 => k_is)
    (case k18 => k_is)
    (case a19 => k_is)
    (case l19 => k_is)
    (case c19 => k_is)
    (case k19 => k_is)
    (case a20 => k_is)
    (case l20 => k_is)
    (case c20 => k_is)
    (case k20 => k_is)
    (case a21 => k_is)
    (case l21 => k_is)
    (case c21 => k_is)
    (case k21 => k_is)
    (case z1 => k_is)
    (case z2 => k_is)
    (case z3 => k_is)
    (case z4 => k_is)
    (case z5 => k_is)
    (case z6 => k_is)
    (case z7 => k_is)
    (case z8 => k_is)
    (case z9 => k_is)
    (case z10 => k_is)
    (case z11 => k_is)
    (case z12 => k_is)
    (case z13 => k_is)
    (case z14 => k_is)
    (case z15 => k_is)
    (case z16 => k_is)
    (case z17 => k_is)
    (case z18 => k_is)
    (case z19 => k_is)
    (case z20 => k_is)
    (case zD => k_is)
