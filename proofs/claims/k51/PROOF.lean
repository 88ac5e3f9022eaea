import PyProof.Rows.All
import Wide.All
import OpenK.AllK
import Wide.FinOn
import HandS.ForMost
import PyProof.ReprRoads
import HandS.FStrTup
import HandS.Strs
import HandS.SetFor
import HandS.Zip
import HandS.ForExc
import HandS.IsInst
import HandS.Evl
import HandS.Conv
import HandS.Flow
import HandS.Style
import HandS.Sort
import HandS.Walk
import HandS.Codes
import HandS.StrMore
import HandS.TupAny
import HandS.Defaults
import KE.KEqSeq
import HandS.WideBits
import HandS.More
import KE.KLam
import KE.SortKeyHeap
import KE.SortData
import KE.SortLaws
import HandS.Base
import HandS.Call
import HandS.List
import HandS.Comp
import HandS.Text
import HandS.Lambda
import KE.KNestM
import KE.DataMinKey
import HandS.Iter
import PyProof.SetRoads
import HandS.Deep
import PyProof.StrBlock2
import KE.GoesNew
import HandS.DictTup
import HandS.DictSubView
import KE.KDictDisplayH
import KE.KDictWalk
import KE.DataMinMax
import HandS.SortKw
import PyProof.MinMaxWalk
import HandS.Dict
import KE.KDictPairs
import PyProof.Rows.SortShellAny
import PyProof.Rows.StrCase
import PyProof.Rows.ReprOcc
import PyProof.FitsInt
import KE.DataCmp
import PySem.Challenge.RW_potround_k51_cooled_spoilt_anywhere
set_option Elab.async false
set_option linter.all false
set_option maxRecDepth 100000
namespace Pot
open PySem PySem.Spec PyProof.Rows L2
/-! ### defs that are called where no text of a thing is under way -/
structure FnG (P : Program) (w : World) (K : PySem.W.Frag) (mg : Str → Option Value) (base : Heap) (k : Nat) (f : Addr) (fd : FuncData) (ps : List Str) (sp : Sp) : Prop where
  many : ∀ vs H Q E, sp vs H Q E → vs.length = ps.length
  does : ∀ (A : Around) (outer : List Env) (s : Shared) (H : Hp) (args : Args) (us : List Value) (vs : List V) (Q : VK), A.guards = some [] → Room k A → Env0 P w K mg base A outer s H →
    BindsTo s fd args (ps.zip us) → Vals vs us → sp vs H Q E0 → codeAny (model P w) A (.call (.ref f) args) (CR CX0 outer P w H s Q E0) s
section
variable {P : Program} {w : World} {K : PySem.W.Frag} {mg : Str → Option Value} {base : Heap}
theorem FnG.of {k : Nat} {f : Addr} {fd : FuncData} {ps : List Str} {sp : Sp} (F : FnOk P w K mg base CX0 k f fd ps sp) : FnG P w K mg base k f fd ps sp :=
  ⟨F.len, fun A outer s H args us vs Q _ hr e hb r h => F.run A outer s H args us vs Q E0 hr e hb r h⟩
theorem okG {x qual : Str} {st : Stmt} {f : Addr} {fd : FuncData} {N ps : List Str} {k : Nat} {sp : Sp} (F : Fun K x qual st f fd) (S : FnScope N ps (defScope st)) (many : ∀ vs H Q E, sp vs H Q E → vs.length = ps.length)
    (body : ∀ (cdv : Value) (A : Around) (outer : List Env) (s : Shared) (H : Hp) (vs : List V) (Q : VK), A.guards = some [] → Room k (A.deeper (envOfC qual (defScope st) s.heap.objs.size f cdv)) → sp vs H Q E0 →
      ∃ t, PSs (cxOf CX0 P w K mg base N qual (defScope st) f cdv A outer s H E0).nox (defBody st) t ∧ t { nx := fun _ H' => Q .non H', rt := Q } (start N vs) H) : FnG P w K mg base (k + 1) f fd ps sp := by
  obtain ⟨oc, od, kV, doc, pm, an, cdv, ct, osl, rfl, at_, code⟩ := F.ex
  refine ⟨many, fun A outer s H args us vs Q gd room e0 bind rel want => ?_⟩
  have kin : K.In s.heap := e0.mod.kin.keeps fun b o e => (e0.bs b o e).1
  have nolim : s.heap.NoLimit := e0.mod.nolimit.keeps fun b o e => (e0.bs b o e).1
  refine codeAny_call_function room.depth (kin _ _ at_) rfl S.co S.gen rfl (PySem.W.codeRec_of kin code) (bind _ _ _ _ (wpAny_newFunctionEnv_cells S.kind (fun y hy => ?_) fun env he s1 x => ?_))
  · obtain ⟨n, v⟩ := y
    exact (S.par n (List.of_mem_zip hy).1).imp id fun q => ⟨q, PySem.W.cellsFrom_some _ _ _ (.inl q)⟩
  · subst he
    obtain ⟨t, ht, hq⟩ := body cdv A outer s H vs Q gd (room.deeper _) want
    have I : Inv (cxOf CX0 P w K mg base N qual (defScope st) f cdv A outer s H E0) [] (start N vs) H s1 := inv_start S room.hd e0 (many _ _ _ _ want) rel x
    refine ⟨nolim.keeps x.toInCall.keep, codeAny_func (wpAny_mono (ht.nox.run [] s1 (start N vs) H _ I hq) (fun fl s' hs => ?_) fun _ _ z => z)⟩
    cases fl with
    | ret u =>
      obtain ⟨v, σ', H', J, rv, q⟩ := hs
      exact ⟨v, H', J.os, J.bare, J.base, J.hok, rv, q⟩
    | next =>
      obtain ⟨σ', H', J, q⟩ := hs
      exact ⟨V.non, H', J.os, J.bare, J.base, J.hok, rfl, q⟩
    | brk => obtain ⟨_, _, _, q⟩ := hs; exact q.elim
    | cont => obtain ⟨_, _, _, q⟩ := hs; exact q.elim
/-! calls -/
/-- a def that may be called by its name where no text is under way -/
def ClG (P : Program) (w : World) (K : PySem.W.Frag) (mg : Str → Option Value) (base : Heap) (k : Nat) (x : Str) (ds : List V) (sp : Sp) : Prop :=
  ∃ (f : Addr) (fd : FuncData) (ps : List Str) (dus : List Value), FnG P w K mg base k f fd ps sp ∧ mg x = some (.ref f) ∧ PySem.W.keepIn K (.ref f) = true ∧ Binds K fd ps dus ∧ Vals ds dus
theorem pe_clG {X : Cx} {k j : Nat} {x : Str} {ds : List V} {sp : Sp} {e : Expr} {es : List Expr} {t : TA} {p pos : Pos} (c : ClG X.prog X.w X.K X.mg X.base k x ds sp) (hr : Room j X.A) (gd : X.A.guards = some []) (hk : k ≤ j) (hg : Gl X x) (ha : PA X (e :: es) t)
    (hdb : (x == ("__debug__" : Str)) = false := by decide) (he : starEach (e :: es) X.env = (false, eval e X.env) :: starEach es X.env := by rfl) (hpl : (backTo pos (starEach es X.env)).any (·.1) = false := by rfl) :
    PE X (.Call (.Name x p) (e :: es) [] pos) (tCall sp ds E0 t) := by
  obtain ⟨f, fd, ps, dus, G, named, kept, binds, dv⟩ := c
  refine ⟨fun pins s σ H Q I h => wpAny_Call_Name_kw (ld_glob I hg named (PySem.W.callWith_K (h₀ := X.base) I.ok.mod.kin kept (thn (ha.run pos pins s σ H _ I h) fun us s1 hh => ?_) he hpl) hdb)⟩
  obtain ⟨vs, H1, I1, r, q⟩ := hh
  refine ⟨I1.kIn, ?_⟩
  have rel := r.append dv
  have n : (us ++ dus).length = ps.length := rel.length ▸ G.many _ _ _ _ q
  refine wpAny_call (codeAny_mono (G.does X.A X.stack s1 H1 ⟨us, []⟩ (us ++ dus) (vs ++ ds) Q gd (hr.mono hk) I1.env0 (binds s1 us I1.kIn n) rel q) fun res s' hq => ?_)
  rcases res with _ | fl
  case error => exact (show False from hq).elim
  cases fl <;> first | exact I1.after hq | exact (show False from hq).elim
/-! the law's own call -/
theorem law_callG {mb : Str → Option Value} {k : Nat} {fa a : Addr} {fd : FuncData} {x : Str} {sp : Sp} {s : Shared} {vs : List Value} {ns : List Int} (kin : K.In s.heap) (glob : s.heap.Ns mainGlobals mg) (blt : s.heap.Ns builtinsNs mb)
    (boot : ∀ y : Str, y ≠ "__name__" → mb y = bootBuiltins y) (lim : s.heap.NoLimit) (gens : s.gens = #[]) (obj : s.heap.get? a = some { cls := .type "list", data := .seq vs.toArray }) (whole : IntsAre vs ns) (small : ns.length ≤ sizeLine) (room : Room k callerA)
    (F : ∀ base : Heap, K.In base → base.Ns mainGlobals mg → FnG P w K mg base k fa fd [x] sp) (bind : ∀ (s : Shared) (u : Value), BindsTo s fd ⟨[u], []⟩ [(x, u)])
    (want : ∀ H : Hp, Only H → SqL K H a (ns.map V.int) → sp [.ref a] H (fun v _ => v = .bl true) E0) :
    codeAny (model P w) callerA (.call (.ref fa) ⟨[.ref a], []⟩) (fun r s' => r = .ok (.ret (.bool true)) ∧ OldK s.heap s'.heap ∧ s'.os = s.os ∧ AllBare s'.gens) s := by
  have rv := vals_ints whole
  have nv := whole.length
  -- which heap is told: the script, locked, where it isn't one of the written part
  obtain ⟨H, only, seq, fine, alone, apart⟩ : ∃ H : Hp, Only H ∧ SqL K H a (ns.map V.int) ∧ HOk P w H s.heap ∧ (∀ b u, H b = some u → b = a) ∧ (∀ u, H a = some u → K.lookup a = none) := by
    cases lk : K.lookup a with
    | some o =>
      have same := kin a o lk
      rw [obj] at same
      cases same
      exact ⟨fun _ => none, fun _ => .inl rfl, .inr ⟨_, vs.toArray, _, lk, rfl, rfl, rfl, by rw [List.size_toArray, nv]; exact small, by simpa using rv⟩, (fun b u z => nomatch (show (none : Option HO) = some u from z)), (fun b u z => nomatch (show (none : Option HO) = some u from z)), fun u z => nomatch (show (none : Option HO) = some u from z)⟩
    | none =>
      have hit : ∀ b u, (if b = a then some (HO.frz { cls := .type "list", data := .seq vs.toArray } (.lst (ns.map V.int))) else none) = some u → b = a ∧ u = .frz { cls := .type "list", data := .seq vs.toArray } (.lst (ns.map V.int)) := fun b u z => by
        split at z
        · cases z; exact ⟨‹_›, rfl⟩
        · cases z
      refine ⟨fun b => if b = a then some (.frz { cls := .type "list", data := .seq vs.toArray } (.lst (ns.map V.int))) else none, fun b => ?_, .inl (.inr ⟨_, if_pos rfl⟩), fun b u z => ?_, fun b u z => (hit b u z).1, fun _ _ => rfl⟩
      · by_cases hb : b = a
        · exact .inr ⟨_, _, if_pos hb⟩
        · exact .inl (if_neg hb)
      · obtain ⟨rfl, rfl⟩ := hit b u z
        exact ⟨obj, by rw [List.length_map]; exact small, vs, _, rv, obj⟩
  have hid : ∀ {b : Addr} {o : Obj}, s.heap.get? b = some o → (b = a → H a = none) → (hidT s.heap H).get? b = some o := fun {b o} e n => hidT_get e (by
    cases q : H b with
    | none => rfl
    | some u =>
      have e2 := alone b u q
      subst e2
      rw [n rfl] at q
      cases q)
  have kinB : K.In (hidT s.heap H) := fun b o e => hid (kin b o e) fun z => by
    subst z
    cases q : H b with
    | none => rfl
    | some u => rw [apart u q] at e; cases e
  have ns_ : ∀ {b : Addr} {m : Str → Option Value}, s.heap.Ns b m → (hidT s.heap H).Ns b m := fun {b m} h => by
    obtain ⟨o, es, ep, e, d, r⟩ := h
    refine ⟨o, es, ep, hid e fun z => ?_, d, r⟩
    subst z
    rw [obj] at e
    cases e
    exact nomatch (show Data.seq vs.toArray _ = Data.dict es ep from d)
  have md : Mod K mg (hidT s.heap H) := ⟨kinB, ns_ glob, ⟨mb, ns_ blt, boot⟩, by obtain ⟨mc, h1, h2⟩ := lim; exact ⟨mc, ns_ h1, h2⟩⟩
  have e0 : Env0 P w K mg (hidT s.heap H) callerA [] s H := ⟨rfl, md, fun b o e => of_hidT e, Nat.le_of_eq (hidT_size _ _), trivial, (fun b hb => nomatch (show b ∈ ([] : List Addr) from hb)), fine, .of_eq gens⟩
  refine codeAny_mono ((F _ kinB (ns_ glob)).does callerA [] s H ⟨[.ref a], []⟩ [.ref a] [.ref a] _ rfl room e0 (bind s (.ref a)) (.cons rfl .nil) (want H only seq)) fun res s' h => ?_
  rcases res with _ | fl
  case error => exact (show False from h).elim
  cases fl <;> first | exact (show False from h).elim | skip
  obtain ⟨v, H', os, bare, un, fine', rel, q⟩ := h
  cases (show v = .bl true from q)
  cases (show _ = Value.bool true from rel)
  refine ⟨rfl, OldK.of_keep fun b o e => ?_, os, bare⟩
  cases q : H b with
  | none => exact un.keep b o e q (fun z => nomatch (show b ∈ ([] : List Addr) from z)) (fun z => nomatch z)
  | some u =>
    rcases only b with z | ⟨ob, xs, z⟩
    · rw [q] at z; cases z
    · obtain ⟨e1, _⟩ := fine b _ z
      obtain ⟨e2, _⟩ := fine' b _ (un.frzs b ob _ z)
      rw [e] at e1; cases e1
      exact e2
end
theorem walkG {l : PySem.W.OpenLaw} {n k : Nat} {q : Program} {loose : List Str} {XP : (Str → Option Value) → Heap → Prop} {YP : World → Heap → Prop} {d : DefRec} {K : Params → PySem.W.Frag} {sp : World → Sp} {x : Str}
    (most : l.most = some n) (fits : n ≤ sizeLine) (plain : d.params.defaults = []) (room : Room k callerA) (part : ∀ (w : World) (h : Heap), YP w h → (K w.params).In h)
    (F : ∀ (w : World) (mg : Str → Option Value) (fa : Addr) (h : Heap), (K w.params).In h → h.Ns mainGlobals mg → mg d.name = some (.ref fa) →
      ∃ fd : FuncData, (∀ (s : Shared) (u : Value), BindsTo s fd ⟨[u], []⟩ [(x, u)]) ∧ ∀ base : Heap, (K w.params).In base → base.Ns mainGlobals mg → FnG l.prog w (K w.params) mg base k fa fd [x] (sp w))
    (want : ∀ (w : World) (H : Hp) (a : Addr) (ns : List Int), ns.length ≤ n → Only H → SqL (K w.params) H a (ns.map V.int) → sp w [.ref a] H (fun v _ => v = .bl true) E0) :
    PySem.W.WalkO q loose XP YP l.row.toRowW d [] (fun f vs => PySem.call f vs) := by
  refine Att.attach_call most plain fun w s₀ s₁ mg mb fa o pm cd doc a vs ns G Y _ _ _ named obj whole len gens => ?_
  obtain ⟨fd, bind, hF⟩ := F w mg fa _ (part w _ Y) G.T.g named
  exact law_callG (part w _ Y) G.T.g G.T.b G.T.builtins G.T.nolimit gens obj whole (Nat.le_trans len fits) room hF bind fun H only seq => want w H a ns len only seq
end Pot

namespace Pot
open PySem PySem.Spec PyProof.Rows L2
/-! ### repr of what is made of numbers, texts, truths, None, lists and tuples -/
section
variable {K : PySem.W.Frag}
mutual
theorem dp_noDict {H : Hp} : ∀ {v : V} {d : PyData}, Dp K H v d → d.hasDict = false
  | _, _, .non => rfl
  | _, _, .bl _ => rfl
  | _, _, .int _ => rfl
  | _, _, .str _ => rfl
  | _, _, .lst _ a => dpAll_noDict a
  | _, _, .tup _ a => dpAll_noDict a
theorem dpAll_noDict {H : Hp} : ∀ {vs : List V} {ds : List PyData}, DpAll K H vs ds → PyData.hasDictAll ds = false
  | _, _, .nil => rfl
  | _, _, .cons h t => by
    show (PyData.hasDict _ || PyData.hasDictAll _) = false
    rw [dp_noDict h, dpAll_noDict t]
    rfl
end
/-- how long its text may be, told roughly -/
def costAll : List PyData → Nat
  | [] => 0
  | x :: xs => cost x + 2 + costAll xs
where cost : PyData → Nat
  | .none => 4
  | .bool _ => 5
  | .int _ => 1921
  | .str x => 10 * x.length + 2
  | .list xs => costAll xs + 3
  | .tuple xs => costAll xs + 3
  | .dict _ => 0
/-- what repr is asked of here: its texts of plain signs -/
def fineAll : List PyData → Prop
  | [] => True
  | x :: xs => fine x ∧ fineAll xs
where fine : PyData → Prop
  | .none => True
  | .bool _ => True
  | .int i => i.natAbs.log2 < 1920
  | .str x => ∀ c ∈ x.cps.toList, c < 16 ^ 8
  | .list xs => fineAll xs
  | .tuple xs => fineAll xs
  | .dict _ => False
theorem from_len : ∀ (ts : List Str) (k : Nat) (acc : Str), (textFrom k acc ts).length ≤ acc.length + piled ts
  | [], k, acc => by rw [piled_nil]; exact Nat.le_refl _
  | t :: r, k, acc => by
    have ih := from_len r (k + 1)
    rw [piled_cons]
    unfold textFrom
    refine Nat.le_trans (ih _) ?_
    rw [strLen_append]
    split
    · rw [strLen_append]
      have e : (", " : Str).length = 2 := by decide +kernel
      omega
    · rw [strLen_append]
      have e : ("" : Str).length = 0 := by decide +kernel
      omega
theorem list_len (ts : List Str) : (listText ts).length ≤ piled ts + 2 := by
  unfold listText
  rw [strLen_append]
  have h := from_len ts 0 "["
  have e1 : ("[" : Str).length = 1 := by decide +kernel
  have e2 : ("]" : Str).length = 1 := by decide +kernel
  omega
mutual
theorem shown_len : ∀ d : PyData, fineAll.fine d → d.shown.length ≤ costAll.cost d
  | .none, _ => by decide +kernel
  | .bool b, _ => by cases b <;> decide +kernel
  | .int i, h => PyProof.Rows.int_text_len_1921 h
  | .str x, h => StrLaws.reprText_len x h
  | .list xs, h => Nat.le_trans (list_len _) (Nat.add_le_add (piled_len xs h) (by decide))
  | .tuple xs, h => Nat.le_trans (fmt_text _) (Nat.add_le_add (piled_len xs h) (by decide))
  | .dict _, h => h.elim
theorem piled_len : ∀ ds : List PyData, fineAll ds → piled (PyData.shownAll ds) ≤ costAll ds
  | [], _ => Nat.le_refl _
  | x :: xs, h => by
    have h1 := shown_len x h.1
    have h2 := piled_len xs h.2
    show piled (x.shown :: PyData.shownAll xs) ≤ costAll.cost x + 2 + costAll xs
    rw [piled_cons]
    omega
end
mutual
theorem fine_show : ∀ d : PyData, fineAll.fine d → d.showable = true
  | .none, _ => rfl
  | .bool _, _ => rfl
  | .int i, h => decide_eq_true h
  | .str _, _ => rfl
  | .list xs, h => fineAll_show xs h
  | .tuple xs, h => fineAll_show xs h
  | .dict _, h => h.elim
theorem fineAll_show : ∀ ds : List PyData, fineAll ds → PyData.showableAll ds = true
  | [], _ => rfl
  | x :: xs, h => by
    show (PyData.showable x && PyData.showableAll xs) = true
    rw [fine_show x h.1, fineAll_show xs h.2]
    rfl
end
end
section
variable {X : Cx}
def rRepr (K : PySem.W.Frag) : List V → Hp → VK → Prop := fun xs H Q => ∃ (a : Addr) (d : PyData), xs = [V.ref a] ∧ Dp K H (.ref a) d ∧ fineAll.fine d ∧ d.depth ≤ 60 ∧ costAll.cost d ≤ 16777216 ∧ Q (.str d.shown) H
theorem cr_repr (gd : X.A.guards = some []) (hu : X.A.units + 64 < cLine) : CallR X (.builtin "repr") (rRepr X.K) := by
  intro pins s σ H vs us Q I r h
  obtain ⟨a, d, rfl, dp, sh, dep, sz, q⟩ := h
  rw [Vals.ref1 r]
  obtain ⟨as, rd⟩ := Dp.reads I d (.ref a) (.ref a) dp rfl
  refine repr_of_reads' rd (fine_show d sh) (fun z => ?_) gd (by omega) (fun _ _ e => e) (fun h' u tk k => ⟨.str d.shown, H, I.kept k, ⟨u, rfl⟩, q⟩) (Nat.le_trans (shown_len d sh) (by rw [sizeLine_eq]; exact sz))
  rw [dp_noDict dp] at z
  cases z
end
end Pot

namespace Pot
open PySem PySem.Spec PyProof.Rows L2 PySem.W PySem.Calls
/-! ### set(xs) of a list of ints -/
/-- the object that set() makes first -/
abbrev emptySet (w : World) : Obj := { cls := .type "set", dict := none, data := .set #[] 0 (.fresh 0 0 (!w.params.followText "set-order")) }
section
variable {P : Program} {w : World} {A : Around} {E : Value → Shared → Prop} {s : Shared}
/-- what is wanted behind the filling -/
def Filled (w : World) (s : Shared) (ns : List Int) (s' : Shared) : Prop := ∃ h' tk c, s' = { s with heap := h', toks := tk } ∧ SetR w h' s.heap.objs.size (fun j => decide (j ∈ ns)) c ∧ c ≤ ns.length ∧ ∀ b o, s.heap.get? b = some o → h'.get? b = some o
set_option maxHeartbeats 4000000 in
theorem call_set_li {l : Addr} {items : Array Value} (ns : List Int) {Q : Value → Shared → Prop} (hh : A.handled = none) (hl : s.heap.IsList l items) (hit : IntsAre items.toList ns) (hb : ns.length + 1 < scanBound)
    (hq : ∀ s', Filled w s ns s' → Q (.ref s.heap.objs.size) s') : wpAny (model P w) A (call (.type "set") [.ref l]) Q E s := by
  have size : items.size = ns.length := by
    rw [← Array.length_toList]; exact IntsAre.length hit
  have made := F.called_set.made
  have below := F.called_set.sub
  obtain ⟨_, _, chain⟩ := F.called_set.mro
  have nt := F.called_set.notType
  have cc := F.called_set.canCreate
  have ck := F.typeCall_set_1 (.ref l)
  refine wpAny_call (codeAny_of_tree (show wpAny _ _ (callAny (.type "set") _) _ _ _ from wpAny_pure ⟨Code.quiet_builtin _ (by decide +kernel), codeAny_builtin F.entry_type_call ?_⟩))
  rw [Around.under_plain (weight_type_call_type "set" [.ref l] []) rfl]
  repeat (any_goals (first | assumption | wp_step))
  refine codeAny_mono (code_set_led1 (.ref l) (E := E) (Q₁ := fun obj z => obj = .ref s.heap.objs.size ∧ z = { s with heap := s.heap.push (emptySet w) }) ⟨rfl, rfl⟩) fun r z hr => ?_
  rcases r with _ | fl
  case error => exact hr
  cases fl <;> first | exact hr.elim | skip
  obtain ⟨rfl, rfl⟩ := hr
  have at0 : (s.heap.push (emptySet w)).get? s.heap.objs.size = some (emptySet w) := Heap.get?_push_size _ rfl
  have ty0 : Shared.TypeIs { s with heap := s.heap.push (emptySet w) } (.ref s.heap.objs.size) "set" := ⟨_, at0, rfl⟩
  have li := F.called_set.init.lookup
  have bi := F.called_set.init.bind (.ref s.heap.objs.size)
  repeat (any_goals (first | assumption | wp_step))
  refine codeAny_mono (codeAny_call_builtin (R := wants (fun r z => r = .none ∧ Filled w s ns z) E) F.called_set.init.plain F.entry_set_init (check_set_init_1 ty0 ?_)) fun r z hz => ?_
  · obtain ⟨⟨_, od, _, os⟩, hol, hcl, nl, hdl⟩ := hl
    simp only at hcl hdl
    subst hcl
    subst hdl
    have keep : (s.heap.push (emptySet w)).get? l = some { cls := .type "list", dict := od, data := .seq items nl, slots := os } := Heap.get?_push_of_some _ hol
    have s1 := F.sub_list_set
    have s2 := F.sub_list_frozenset
    have s3 : (Value.type "list" == Value.type "dict") = false := by decide
    have isl : (s.heap.push (emptySet w)).IsList l items := ⟨_, keep, rfl, nl, rfl⟩
    unfold Builtin.«set.__init__» noKeywords Builtin.Frozenset.updateFrom
    generalize hPI : pyIter = PI
    wp_walk
    subst hPI
    refine wpAny_pyIter_list isl (wpAny_bind (wpAny_runValue ?_))
    have lt : l < s.heap.objs.size := Heap.lt_size hol
    have sz : (s.heap.push (emptySet w)).objs.size = s.heap.objs.size + 1 := Heap.size_push ..
    have ne1 : l ≠ (s.heap.push (emptySet w)).objs.size := by rw [sz]; exact Nat.ne_of_lt (Nat.lt_succ_of_lt lt)
    have ne2 : s.heap.objs.size ∉ [(s.heap.push (emptySet w)).objs.size, l] := by
      rw [sz]
      intro z
      rcases List.mem_cons.mp z with z | z
      · exact absurd z (Nat.ne_of_lt (Nat.lt_succ_self _))
      · exact absurd (List.mem_singleton.mp z) (Nat.ne_of_gt lt)
    have each : ∀ (i : Nat) (v : Value), items[i]? = some v → ∃ k t, ns[i]? = some k ∧ v = .int k t := fun i v hv => by
      have hi : i < ns.length := size ▸ (Array.getElem?_eq_some_iff.mp hv).1
      obtain ⟨t, e⟩ := IntsAre.int_at hit i v (by rw [Array.getElem?_toList]; exact hv)
      exact ⟨ns[i], t, List.getElem?_eq_getElem hi, by rw [e, List.getD_eq_getElem?_getD, List.getElem?_eq_getElem hi]; rfl⟩
    refine set_update_ints ((Walks.list (show A.in1.in1.in1.handled = none by simp [hh]) _ l ne1 items).toS) s.heap.objs.size ne2 ns size hb each (items.size - 0) 0 _ (by omega) (Nat.zero_le _) ⟨⟨_, Heap.get?_push_size _ rfl, rfl, rfl⟩, isl.push _⟩ ⟨0, Nat.le_refl 0, setR_new_at (Heap.get?_push_of_some _ at0)⟩ fun s' c hm hc hS => ?_
    obtain ⟨h', g, d, tk, o⟩ := s'
    cases (show g = s.gens from hm.gens)
    cases (show d = s.drawn from hm.drawn)
    cases (show o = s.os from hm.os)
    refine (show wpAny _ _ _ _ _ _ from wpAny_pure (show wpAny _ _ (ret Value.none) _ _ _ from wpAny_pure ⟨rfl, h', tk, c, rfl, hS, size ▸ hc, fun b o e => ?_⟩))
    have hb0 : b < s.heap.objs.size := Heap.lt_size e
    refine hm.heap b o (fun z => ?_) (Heap.get?_push_of_some _ (Heap.get?_push_of_some _ e))
    rcases List.mem_cons.mp z with z | z
    · exact absurd z (Nat.ne_of_lt hb0)
    · exact absurd ((List.mem_singleton.mp z).trans sz) (Nat.ne_of_lt (Nat.lt_succ_of_lt hb0))
  · rcases r with _ | fl
    case error => exact hz
    cases fl <;> first | exact hz.elim | skip
    obtain ⟨rfl, f⟩ := hz
    obtain ⟨h', tk, c, rfl, hS, hc, k⟩ := id f
    repeat (any_goals (first | assumption | wp_step))
    exact hq _ ⟨_, _, _, rfl, hS, hc, k⟩
end
section
variable {X : Cx}
/-- set(xs), at most 60 ints: a set of just these -/
def rSetLi (K : PySem.W.Frag) (w : World) : List V → Hp → VK → Prop := fun xs H Q => ∃ (a : Addr) (ns : List Int), xs = [V.ref a] ∧ SqL K H a (ns.map V.int) ∧ ns.length ≤ 1000 ∧
  ∀ (p : Addr) (c : Nat), H p = none → c ≤ ns.length → Q (.ref p) (upd H p (SetO w p (fun k => decide (k ∈ ns)) c))
theorem cr_setLi (hc : X.calm = true) : CallR X (.type "set") (rSetLi X.K X.w) := by
  intro pins s σ H vs us Q I r h
  obtain ⟨a, ns, rfl, hS, hl, q⟩ := h
  rw [Vals.ref1 r]
  obtain ⟨its, rv, pl, hz⟩ := I.list hS
  refine call_set_li ns (I.ok.hd hc) pl.isList (by simpa using Vals.ints rv) (by unfold scanBound; omega) fun s' f => ?_
  obtain ⟨h', tk, c, rfl, R, hcn, k⟩ := f
  have hn : H s.heap.objs.size = none := I.hok.fresh (Nat.le_refl _)
  have J : Inv X pins σ (upd H s.heap.objs.size (SetO X.w s.heap.objs.size (fun k => decide (k ∈ ns)) c)) { s with heap := h', toks := tk } := I.laid (t' := tk) k (Nat.le_refl _) (setO_new R)
  exact ⟨.ref s.heap.objs.size, _, J, rfl, q _ _ hn hcn⟩
end
end Pot

/-! The rules whose readings name the written part, with it as a letter of its own. -/
namespace Pot
open PySem PySem.Spec PyProof.Rows L2
section
variable {X : Cx} {K : PySem.W.Frag}
theorem kx_list (h : X.K = K := by rfl) : IxR X (rIxL K) := h ▸ ix_list
theorem kx_tup (h : X.K = K := by rfl) : IxR X (rIxT K) := h ▸ ix_tup
theorem kl_list (h : X.K = K := by rfl) : SlR X (rSlL K) := h ▸ sl_list
theorem kl_tup (h : X.K = K := by rfl) : SlR X (rSlA K) := h ▸ sl_tupA
theorem ko_in (h : X.K = K := by rfl) : OpR X (compareOp .In) (rIn K false) := h ▸ op_in_seq
theorem ko_eq (hu : X.A.units + 64 < cLine) (h : X.K = K := by rfl) : OpR X (compareOp .Eq) (rEqD K) := h ▸ op_eqD hu
theorem ko_ne (hu : X.A.units + 64 < cLine) (h : X.K = K := by rfl) : OpR X (compareOp .NotEq) (rNeD K) := h ▸ op_neD hu
def rLen (K : PySem.W.Frag) : List V → Hp → VK → Prop := fun xs H Q => ∃ x n, xs = [x] ∧ LenV K x H n ∧ Q (.int n) H
theorem kc_len (h : X.K = K := by rfl) : CallR X (.builtin "len") (rLen K) := by subst h; exact call_len
def rListOf (K : PySem.W.Frag) : List V → Hp → VK → Prop := fun xs H Q => ∃ p ys, xs = [.ref p] ∧ (SqL K H p ys ∨ SqT K H p ys) ∧ ∀ l, H l = none → Q (.ref l) (upd H l (.lst ys))
theorem kc_list (h : X.K = K := by rfl) : CallR X (.type "list") (rListOf K) := by subst h; exact call_list_of
def rTupleOf (K : PySem.W.Frag) : List V → Hp → VK → Prop := fun xs H Q => ∃ p ys, xs = [.ref p] ∧ ((SqL K H p ys ∧ ∀ l, H l = none → Q (.ref l) (upd H l (.tup ys))) ∨ (SqT K H p ys ∧ Q (.ref p) H))
theorem kc_tuple (h : X.K = K := by rfl) : CallR X (.type "tuple") (rTupleOf K) := by subst h; exact call_tuple_of
theorem kc_sum (hc : X.calm = true := by rfl) (h : X.K = K := by rfl) : CallR X (.builtin "sum") (rSum K) := h ▸ cr_sum hc
theorem kc_all (hc : X.calm = true := by rfl) (h : X.K = K := by rfl) : CallR X (.builtin "all") (rAll K) := h ▸ cr_all hc
theorem kc_any (hc : X.calm = true := by rfl) (h : X.K = K := by rfl) : CallR X (.builtin "any") (rAny K) := h ▸ cr_any hc
theorem kc_sorted (h : X.K = K := by rfl) : CallR X (.builtin "sorted") (rSorted K) := h ▸ cr_sorted
theorem kc_sortedS (h : X.K = K := by rfl) : CallR X (.builtin "sorted") (rSortedS K) := h ▸ cr_sortedS
theorem kc_isi (h : X.K = K := by rfl) : CallR X (.builtin "isinstance") (rIsi K) := h ▸ call_isi
theorem kc_isiT (h : X.K = K := by rfl) : CallR X (.builtin "isinstance") (rIsiT K) := h ▸ call_isiT
theorem kc_repr (gd : X.A.guards = some []) (hu : X.A.units + 64 < cLine) (h : X.K = K := by rfl) : CallR X (.builtin "repr") (rRepr K) := h ▸ cr_repr gd hu
theorem kc_setLi {w : World} (hc : X.calm = true := by rfl) (h : X.K = K := by rfl) (hw : X.w = w := by rfl) : CallR X (.type "set") (rSetLi K w) := by subst h; subst hw; exact cr_setLi hc
theorem kc_sortedSet {w : World} (hc : X.calm = true := by rfl) (hw : X.w = w := by rfl) : CallR X (.builtin "sorted") (rSortedSet w) := hw ▸ cr_sortedSet hc
theorem ki_list {tg l : Expr} {tl : TE} (hl : PE X l tl) (h : X.K = K := by rfl) : PI X tg l (iList K tl) := h ▸ pi_list hl
theorem ki_tup {tg l : Expr} {tl : TE} (hl : PE X l tl) (h : X.K = K := by rfl) : PI X tg l (iTup K tl) := h ▸ pi_tup hl
theorem ki_zip {e e2 : Expr} {ta : TA} {p pos tpos : Pos} {elts : List Expr} {kk : Nat} (hg : Gl X "zip") (hm : X.mg "zip" = none) (ha : PA X [e, e2] ta) (hs : starEach [e, e2] X.env = (false, eval e X.env) :: starEach [e2] X.env := by rfl)
    (hpl : (backTo pos (starEach [e2] X.env)).any (·.1) = false := by rfl) (h : X.K = K := by rfl) : PI X (.Tuple elts kk tpos) (.Call (.Name "zip" p) [e, e2] [] pos) (RZ.iZipA K ta) := h ▸ RZ.pi_zipA hg hm ha hs hpl
theorem ki_enum {e : Expr} {ta : TA} {p pos tpos : Pos} {elts : List Expr} {kk : Nat} (hg : Gl X "enumerate") (hm : X.mg "enumerate" = none) (ha : PA X [e] ta) (hs : starEach [e] X.env = [(false, eval e X.env)] := by rfl) (h : X.K = K := by rfl)
    : PI X (.Tuple elts kk tpos) (.Call (.Name "enumerate" p) [e] [] pos) (iEnum K ta) := h ▸ pi_enum hg hm ha hs
theorem kg_tup {pos : Pos} {es : List Expr} {k : Nat} {t : TGs} {n : Nat} (h : PGs X es t) (hc : X.calm = true := by rfl) (hn : (assignEach es X.env).length = n := by rfl) (hst : (assignEach es X.env).findIdx? (·.1) = none := by rfl) (hk : X.K = K := by rfl) : PG X (.Tuple es k pos) (gTup K n t) := hk ▸ pg_tup hc h hn hst
def tTru (K : PySem.W.Frag) (ta : TE) : TT := fun σ H Q => ta σ H fun x H' => ∃ k, TruV K x H' k ∧ Q k H'
theorem kt_truth {a : Expr} {ta : TE} (ha : PE X a ta) (he : ∀ whole, isTrue a X.env whole = (do let v ← whole; standAt a.pos; holding [v] (truthy v)) := by intro _; rfl) (h : X.K = K := by rfl) : PT X a (tTru K ta) := by subst h; exact pt_truth ha he
def rJoin (K : PySem.W.Frag) : V → List V → Hp → VK → Prop := fun x xs H Q => ∃ a p, ∃ ys : List Str, x = .str a ∧ xs = [.ref p] ∧ (SqL K H p (ys.map V.str) ∨ SqT K H p (ys.map V.str)) ∧ (ys.map (·.length)).sum + ys.length * a.length ≤ 16777216 ∧ Q (.str (Txt.join a ys)) H
theorem ke_join {o e : Expr} {to te : TE} {apos pos : Pos} (ho : PE X o to) (he : PE X e te) (hs : starEach [e] X.env = [(false, eval e X.env)] := by rfl) (hbase : attributeBase o "join" X.env (eval o X.env) = eval o X.env := by rfl) (hline : (apos.endLine == pos.line) = true := by rfl) (h : X.K = K := by rfl) :
    PE X (.Call (.Attribute o "join" apos) [e] [] pos) (tM1 (rJoin K) to te) := by subst h; exact pe_join ho he hs hbase hline
theorem pss_never {st : List Stmt} : PSs X st (fun _ _ _ => False) := ⟨fun _ _ _ _ _ _ h => h.elim⟩
theorem ps_never {st : Stmt} : PS X st (fun _ _ _ => False) := ⟨fun _ _ _ _ _ _ h => h.elim⟩
theorem pe_never {e : Expr} : PE X e (fun _ _ _ => False) := ⟨fun _ _ _ _ _ _ h => h.elim⟩
theorem tYes_at {σ : L2.St} {H : Hp} {Q : Bool → Hp → Prop} (h : Q true H) : tYes σ H Q := h
end
end Pot

namespace Pot
open PySem PySem.Spec PyProof.Rows L2
/-- built-in names that the module gives no other meaning -/
structure Txt (mg : Str → Option Value) : Prop where
  len : mg "len" = none
  divmod : mg "divmod" = none
  range : mg "range" = none
  sum : mg "sum" = none
  all : mg "all" = none
  any : mg "any" = none
  isinstance : mg "isinstance" = none
  str : mg "str" = none
  int : mg "int" = none
  list : mg "list" = none
  tuple : mg "tuple" = none
  bool : mg "bool" = none
  zip : mg "zip" = none
  set : mg "set" = none
  sorted : mg "sorted" = none
  enumerate : mg "enumerate" = none
  repr : mg "repr" = none
  min : mg "min" = none
  max : mg "max" = none
  abs : mg "abs" = none
/-- a def that may be called by its name: what it keeps, at which level -/
def Cl (P : Program) (w : World) (K : PySem.W.Frag) (mg : Str → Option Value) (base : Heap) (k : Nat) (x : Str) (sp : Sp) : Prop :=
  ∃ (f : Addr) (fd : FuncData) (ps : List Str), FnOk P w K mg base CX0 k f fd ps sp ∧ mg x = some (.ref f) ∧ PySem.W.keepIn K (.ref f) = true ∧ Binds K fd ps []
theorem pe_cl {X : Cx} {k j : Nat} {x : Str} {sp : Sp} {e : Expr} {es : List Expr} {t : TA} {p pos : Pos} (c : Cl X.prog X.w X.K X.mg X.base k x sp) (hr : Room j X.A) (hk : k ≤ j) (hg : Gl X x) (ha : PA X (e :: es) t) (hdb : (x == ("__debug__" : Str)) = false := by decide)
    (he : starEach (e :: es) X.env = (false, eval e X.env) :: starEach es X.env := by rfl) (hpl : (backTo pos (starEach es X.env)).any (·.1) = false := by rfl) : PE X (.Call (.Name x p) (e :: es) [] pos) (tCall sp [] E0 t) := by
  obtain ⟨f, fd, ps, G, hm, kp, b⟩ := c
  exact pe_call G (hr.mono hk) hg hm kp b .nil pass0 ha hdb he hpl
/-! ### the drawing state -/
def dS (c : Addr) (t : Int) : List (Key × V) := [(Sum.inr "cells", .ref c), (Sum.inr "turn", .int t)]
/-- at d stands a state of the law: its cells at c, its turn at most n -/
def StAt (H : Hp) (d c : Addr) (n : Nat) : Prop := d ≠ c ∧ ∃ (xs : List Int) (t : Int),
  H d = some (.dK (dS c t)) ∧ H c = some (.lst (xs.map V.int)) ∧ xs ≠ [] ∧ xs.length ≤ 63 ∧ 0 ≤ t ∧ t ≤ n
/-- all that was tracked stands, but d and c -/
def Kp (d c : Addr) (H H' : Hp) : Prop := ∀ b o, b ≠ d → b ≠ c → H b = some o → H' b = some o
theorem Kp.refl (d c : Addr) (H : Hp) : Kp d c H H := fun _ _ _ _ e => e
theorem Kp.trans {d c : Addr} {H H1 H2 : Hp} (a : Kp d c H H1) (b : Kp d c H1 H2) : Kp d c H H2 := fun x o h1 h2 e => b x o h1 h2 (a x o h1 h2 e)
theorem Kp.of {d c : Addr} {H H' : Hp} (s : Same H H') : Kp d c H H' := fun x o _ _ e => s x o e
theorem same_upd {H : Hp} {p : Addr} {o : HO} (h : H p = none) : Same H (upd H p o) := fun b x e => by
  rw [upd_ne (ne_of_none e h)]
  exact e
theorem same_put {H H' : Hp} {p : Addr} {o : HO} (s : Same H H') (h : H p = none) : Same H (upd H' p o) := fun b x e => by
  rw [upd_ne (ne_of_none e h)]
  exact s b x e
theorem kp_put {d c : Addr} {H H' : Hp} {p : Addr} {o : HO} (s : Kp d c H H') (h : H p = none) : Kp d c H (upd H' p o) := fun b x h1 h2 e => by
  rw [upd_ne (ne_of_none e h)]
  exact s b x h1 h2 e
theorem StAt.mono {H : Hp} {d c : Addr} {n m : Nat} (h : StAt H d c n) (k : n ≤ m) : StAt H d c m := by
  obtain ⟨h0, xs, t, h1, h2, h3, h4, h5, h6⟩ := h
  exact ⟨h0, xs, t, h1, h2, h3, h4, h5, by omega⟩
theorem StAt.same {H H' : Hp} {d c : Addr} {n : Nat} (h : StAt H d c n) (s : Same H H') : StAt H' d c n := by
  obtain ⟨h0, xs, t, h1, h2, h3, h4, h5, h6⟩ := h
  exact ⟨h0, xs, t, s _ _ h1, s _ _ h2, h3, h4, h5, h6⟩
theorem Kp.free {d c : Addr} {H H' : Hp} {n : Nat} {l : Addr} (k : Kp d c H H') (s : StAt H' d c n) (h : H' l = none) : H l = none := by
  obtain ⟨_, xs, t, h1, h2, _⟩ := s
  have n1 : l ≠ d := (ne_of_none h1 h).symm
  have n2 : l ≠ c := (ne_of_none h2 h).symm
  cases e : H l with
  | none => rfl
  | some o =>
    rw [k l o n1 n2 e] at h
    cases h
theorem StAt.ne1 {H : Hp} {d c : Addr} {n : Nat} {l : Addr} (s : StAt H d c n) (h : H l = none) : d ≠ l := by
  obtain ⟨_, xs, t, h1, h2, _⟩ := s
  exact ne_of_none h1 h
theorem StAt.ne2 {H : Hp} {d c : Addr} {n : Nat} {l : Addr} (s : StAt H d c n) (h : H l = none) : c ≠ l := by
  obtain ⟨_, xs, t, h1, h2, _⟩ := s
  exact ne_of_none h2 h
theorem StAt.put {H : Hp} {d c : Addr} {n : Nat} {l : Addr} {o : HO} (s : StAt H d c n) (n1 : d ≠ l) (n2 : c ≠ l) : StAt (upd H l o) d c n := by
  obtain ⟨h0, xs, t, h1, h2, h3, h4, h5, h6⟩ := s
  exact ⟨h0, xs, t, by rw [upd_ne n1]; exact h1, by rw [upd_ne n2]; exact h2, h3, h4, h5, h6⟩
theorem val_turn (c : Addr) (t : Int) : valV (dS c t) (Sum.inr "turn") = some (.int t) := by
  have e : ¬ ((Sum.inr (Str.ofString "cells") : Key) = Sum.inr (Str.ofString "turn")) := by decide +kernel
  unfold dS; rw [valV_neg e, valV_pos rfl]
theorem val_cells (c : Addr) (t : Int) : valV (dS c t) (Sum.inr "cells") = some (.ref c) := by
  unfold dS; rw [valV_pos rfl]
theorem put_turn (c : Addr) (t u : Int) : putK (dS c t) (Sum.inr "turn") (.int u) = dS c u := by
  have e : ¬ ((Sum.inr (Str.ofString "cells") : Key) = Sum.inr (Str.ofString "turn")) := by decide +kernel
  unfold putK dS
  simp [e]

theorem dget_turn {H : Hp} {d c : Addr} {t : Int} (h : H d = some (.dK (dS c t))) : DGet H d (.str "turn") (some (.int t)) := by
  rw [← val_turn c t]; exact DGet.k (k := Sum.inr "turn") h
theorem dget_cells {H : Hp} {d c : Addr} {t : Int} (h : H d = some (.dK (dS c t))) : DGet H d (.str "cells") (some (.ref c)) := by
  rw [← val_cells c t]; exact DGet.k (k := Sum.inr "cells") h
theorem dput_turn {H : Hp} {d c : Addr} {t : Int} (u : Int) (h : H d = some (.dK (dS c t))) : DPut H d (.str "turn") (.int u) (upd H d (.dK (dS c u))) := by
  rw [← put_turn c t u]; exact DPut.k (k := Sum.inr "turn") h (by show 2 < sizeLine; decide)
theorem ge18 (x : Int) : (decide ((10 : Int) ^ (18 : Int).toNat ≤ x) = true) ↔ 1000000000000000000 ≤ x := by
  have e : (10 : Int) ^ (18 : Int).toNat = 1000000000000000000 := by decide
  rw [e, decide_eq_true_eq]
theorem cmul_mod (a b : Int) {m : Int} (h0 : 0 < m) (h1 : m < 2 ^ 64) : CMul (a % m) b := by
  have p := Int.emod_nonneg a (show m ≠ 0 by omega)
  have q := Int.emod_lt_of_pos a h0
  exact .inl ⟨by omega, by omega⟩
theorem mod_at {xs : List Int} {u : Int} (hx : xs ≠ []) : ∃ (j : Nat) (y : Int), u % ((xs.map V.int).length : Int) = (j : Int) ∧ j < xs.length ∧ xs[j]? = some y := by
  have h0 : 0 < xs.length := List.length_pos_iff.mpr hx
  rw [List.length_map]
  have a := Int.emod_nonneg u (show (xs.length : Int) ≠ 0 by omega)
  have b := Int.emod_lt_of_pos u (show (0 : Int) < (xs.length : Int) by omega)
  refine ⟨(u % (xs.length : Int)).toNat, xs[(u % (xs.length : Int)).toNat]'(by omega), by omega, by omega, ?_⟩
  exact List.getElem?_eq_getElem _

section
variable {K : PySem.W.Frag}
theorem cut63 {xs : List V} (h : xs.length ≤ 63) : cutV xs none (some 63) = xs := by
  unfold cutV
  rw [HT.sIx_none, show HT.sIx xs.length xs.length (some 63) = min 63 xs.length from HT.sIx_nat xs.length xs.length 63, Nat.min_eq_right h]
  simp
theorem dp_ints {H : Hp} (ns : List Int) : DpAll K H (ns.map V.int) (ns.map PyData.int) := by
  induction ns with
  | nil => exact .nil
  | cons n r ih => exact .cons (.int n) ih
theorem same_tup {H H' : Hp} {a : Addr} {xs : List V} (e : Same H H') (h : SqT K H a xs) : SqT K H' a xs := by
  rcases h with (h | ⟨o, h⟩) | h
  · exact .inl (.inl (e _ _ h))
  · exact .inl (.inr ⟨o, e _ _ h⟩)
  · exact .inr h
mutual
theorem dp_same {H H' : Hp} (s : Same H H') : ∀ {v : V} {d : PyData}, Dp K H v d → Dp K H' v d
  | _, _, .non => .non
  | _, _, .bl b => .bl b
  | _, _, .int i => .int i
  | _, _, .str x => .str x
  | _, _, .lst h a => .lst (s.seq h) (dpAll_same s a)
  | _, _, .tup h a => .tup (same_tup s h) (dpAll_same s a)
theorem dpAll_same {H H' : Hp} (s : Same H H') : ∀ {vs : List V} {ds : List PyData}, DpAll K H vs ds → DpAll K H' vs ds
  | _, _, .nil => .nil
  | _, _, .cons h t => .cons (dp_same s h) (dpAll_same s t)
end
theorem dpAll_len {H : Hp} : ∀ {vs : List V} {ds : List PyData}, DpAll K H vs ds → vs.length = ds.length
  | _, _, .nil => rfl
  | _, _, .cons _ t => by rw [List.length_cons, List.length_cons, dpAll_len t]
theorem dpAll_at {H : Hp} : ∀ {vs : List V} {ds : List PyData} {i : Nat} {v : V}, DpAll K H vs ds → vs[i]? = some v → ∃ d, ds[i]? = some d ∧ Dp K H v d
  | _, _, _, _, .nil, h => by simp at h
  | _, _, 0, _, .cons h _, e => ⟨_, rfl, by cases e; exact h⟩
  | _, _, i + 1, _, .cons _ t, e => dpAll_at (i := i) t e
theorem depth_at : ∀ {ds : List PyData} {i : Nat} {d : PyData}, ds[i]? = some d → d.depth ≤ PyData.depthAll ds
  | [], _, _, h => by simp at h
  | x :: r, 0, d, h => by cases h; unfold PyData.depthAll; exact Nat.le_max_left ..
  | x :: r, i + 1, d, h => by
    have := depth_at (ds := r) (i := i) (d := d) h
    unfold PyData.depthAll
    exact Nat.le_trans this (Nat.le_max_right ..)
theorem tyx_list {H : Hp} {a : Addr} {xs : List V} (h : SqL K H a xs) : TyX K H (.ref a) (.type "list") := by
  rcases h with (h | ⟨o, h⟩) | ⟨o, its, n, h1, h2, _⟩
  · exact .base (.lst h)
  · exact .base (.frz h)
  · exact .kList h1 h2
theorem tyx_tup {H : Hp} {a : Addr} {xs : List V} (h : SqT K H a xs) : TyX K H (.ref a) (.type "tuple") := by
  rcases h with (h | ⟨o, h⟩) | ⟨o, its, n, h1, h2, _⟩
  · exact .base (.tup h)
  · exact .fTuple h
  · exact .kTuple h1 h2
theorem walk_zipT {a b : Addr} {xs ys : List V} {n : Nat} (hn : n = min xs.length ys.length) : Walk (RZ.ItzT K a b) n (fun H => SqT K H a xs ∧ SqT K H b ys) (YPair (fun i => xs[i]?) (fun i => ys[i]?)) := by
  subst hn
  refine ⟨fun i _ hi q => ?_, fun _ q => ⟨xs, ys, q.1, q.2, by omega⟩, fun i H v H' _ q y => ?_⟩
  · exact ⟨xs, ys, xs[i]'(by omega), ys[i]'(by omega), q.1, q.2, List.getElem?_eq_getElem _, List.getElem?_eq_getElem _⟩
  · obtain ⟨T, x, z, e1, e2, e3, e4, e5⟩ := y
    exact ⟨T, x, z, e1, e2, e3, e4 xs q.1, e5 ys q.2⟩
/-- the longest list within -/
def widAll : List PyData → Nat
  | [] => 0
  | x :: xs => max (wid x) (widAll xs)
where wid : PyData → Nat
  | .list xs => max xs.length (widAll xs)
  | .tuple xs => max xs.length (widAll xs)
  | _ => 0
theorem wid_at : ∀ {ds : List PyData} {i : Nat} {d : PyData}, ds[i]? = some d → widAll.wid d ≤ widAll ds
  | [], _, _, h => by simp at h
  | x :: r, 0, d, h => by cases h; unfold widAll; exact Nat.le_max_left ..
  | x :: r, i + 1, d, h => by
    have := wid_at (ds := r) (i := i) (d := d) h
    unfold widAll
    exact Nat.le_trans this (Nat.le_max_right ..)
theorem depth_ints (ns : List Int) : (PyData.list (ns.map PyData.int)).depth = 1 := by
  have h : ∀ l : List Int, PyData.depthAll (l.map PyData.int) = 0 := by
    intro l
    induction l with
    | nil => rfl
    | cons x r ih =>
      show max 0 (PyData.depthAll (r.map PyData.int)) = 0
      rw [ih]
      rfl
  show PyData.depthAll (ns.map PyData.int) + 1 = 1
  rw [h]
theorem wid_ints (ns : List Int) : widAll.wid (PyData.list (ns.map PyData.int)) = ns.length := by
  have h : ∀ l : List Int, widAll (l.map PyData.int) = 0 := by
    intro l
    induction l with
    | nil => rfl
    | cons x r ih =>
      show max 0 (widAll (r.map PyData.int)) = 0
      rw [ih]
      rfl
  show max (ns.map PyData.int).length (widAll (ns.map PyData.int)) = ns.length
  rw [h, List.length_map, Nat.max_zero]
theorem flat_ints (ns : List Int) : (ns.map V.int).all flatV = true := by
  rw [List.all_eq_true]
  intro x hx
  obtain ⟨k, _, rfl⟩ := List.mem_map.mp hx
  rfl
end
section
variable {P : Program} {w : World} {K : PySem.W.Frag} {mg : Str → Option Value} {base : Heap}
/-- a def with values that may be left out -/
abbrev FunV (K : PySem.W.Frag) (x : Str) (st : Stmt) (dvs : List V) (f : Addr) (fd : FuncData) : Prop := FunD K x x (defArgs st) (defBody st) (defScope st) dvs [] f fd
theorem okD {x : Str} {st : Stmt} {dvs : List V} {f : Addr} {fd : FuncData} {N ps : List Str} {k : Nat} {sp : Sp} (F : FunV K x st dvs f fd) (S : FnScope N ps (defScope st)) (len : ∀ vs H Q E, sp vs H Q E → vs.length = ps.length)
    (body : ∀ (cdv : Value) (A : Around) (outer : List Env) (s : Shared) (H : Hp) (vs : List V) (Q : VK) (E : XK), Room k (A.deeper (envOfC x (defScope st) s.heap.objs.size f cdv)) → sp vs H Q E →
      ∃ t, PSs (cxOf CX0 P w K mg base N x (defScope st) f cdv A outer s H E).nox (defBody st) t ∧ t { nx := fun _ H' => Q .non H', rt := Q } (start N vs) H) : FnOk P w K mg base CX0 (k + 1) f fd ps sp :=
  FunD.ok F S len fun cdv A outer s H vs Q E hr h => by
    obtain ⟨t, ht, hq⟩ := body cdv A outer s H vs Q E hr h
    exact ⟨t, ht.nox, hq⟩
/-- a def that may be called by its name, the values ds being left out -/
def ClD (P : Program) (w : World) (K : PySem.W.Frag) (mg : Str → Option Value) (base : Heap) (k : Nat) (x : Str) (ds : List V) (sp : Sp) : Prop :=
  ∃ (f : Addr) (fd : FuncData) (ps : List Str) (dus : List Value), FnOk P w K mg base CX0 k f fd ps sp ∧ mg x = some (.ref f) ∧ PySem.W.keepIn K (.ref f) = true ∧ Binds K fd ps dus ∧ Vals ds dus
theorem pe_cd {X : Cx} {k j : Nat} {x : Str} {ds : List V} {sp : Sp} {e : Expr} {es : List Expr} {t : TA} {p pos : Pos} (c : ClD X.prog X.w X.K X.mg X.base k x ds sp) (hr : Room j X.A) (hk : k ≤ j) (hg : Gl X x) (ha : PA X (e :: es) t) (hdb : (x == ("__debug__" : Str)) = false := by decide)
    (he : starEach (e :: es) X.env = (false, eval e X.env) :: starEach es X.env := by rfl) (hpl : (backTo pos (starEach es X.env)).any (·.1) = false := by rfl) : PE X (.Call (.Name x p) (e :: es) [] pos) (tCall sp ds E0 t) := by
  obtain ⟨f, fd, ps, dus, G, hm, kp, b, dv⟩ := c
  exact pe_call G (hr.mono hk) hg hm kp b dv pass0 ha hdb he hpl
theorem Cl.mono {k j : Nat} {x : Str} {sp : Sp} (c : Cl P w K mg base k x sp) (h : k ≤ j) : Cl P w K mg base j x sp := by
  obtain ⟨f, fd, ps, G, r⟩ := c
  exact ⟨f, fd, ps, G.mono h, r⟩
end
end Pot

namespace Pot
open PySem PySem.Spec PyProof.Rows L2
/-! ### a box of three numbers from which is drawn, and all that stands beside it -/
def Bx (H : Hp) (b : Addr) : Prop := ∃ x y z : Int, H b = some (.lst [.int x, .int y, .int z])
/-- the heap without some -/
def off (H : Hp) (S : List Addr) : Hp := fun x => if x ∈ S then none else H x
theorem off_in {H : Hp} {S : List Addr} {x : Addr} (h : x ∈ S) : off H S x = none := if_pos h
theorem off_out {H : Hp} {S : List Addr} {x : Addr} (h : x ∉ S) : off H S x = H x := if_neg h
theorem off_mem {H : Hp} {S : List Addr} {x : Addr} {o : HO} (h : off H S x = some o) : x ∉ S := fun e => by rw [off_in e] at h; cases h
theorem off_sub {H : Hp} {S : List Addr} : Same (off H S) H := fun x o h => by
  have n := off_mem h
  rw [off_out n] at h; exact h
theorem off_mono {H : Hp} {S T : List Addr} (h : ∀ x ∈ T, x ∈ S) : Same (off H S) (off H T) := fun x o e => by
  have n := off_mem e
  rw [off_out n] at e
  rw [off_out fun z => n (h x z)]; exact e
/-- what stands beside S stands -/
abbrev Sm (S : List Addr) (H H' : Hp) : Prop := Same (off H S) (off H' S)
theorem sm_mono {H H' : Hp} {S T : List Addr} (h : ∀ x ∈ T, x ∈ S) (s : Sm T H H') : Sm S H H' := fun x o e => by
  have n := off_mem e
  rw [off_out n] at e ⊢
  have n2 : x ∉ T := fun z => n (h x z)
  have := s x o (by rw [off_out n2]; exact e)
  rw [off_out n2] at this; exact this
theorem sm_one {H H' : Hp} {S : List Addr} {b : Addr} (h : b ∈ S) (s : Sm [b] H H') : Sm S H H' := sm_mono (fun x hx => by rw [List.mem_singleton.mp hx]; exact h) s
theorem sm_of {H H' : Hp} {S : List Addr} (s : Same H H') : Sm S H H' := fun x o h => by
  have n := off_mem h
  rw [off_out n] at h ⊢; exact s x o h
theorem sm_put {H : Hp} {S : List Addr} {p : Addr} {o : HO} (h : H p = none) : Sm S H (upd H p o) := sm_of (same_upd h)
theorem sm_wr {H : Hp} {S : List Addr} {p : Addr} {o : HO} (h : p ∈ S) : Sm S H (upd H p o) := fun x u e => by
  have n := off_mem e
  rw [off_out n] at e ⊢
  have ne : x ≠ p := fun z => n (by rw [z]; exact h)
  rw [upd_ne ne]; exact e
theorem at_off {H : Hp} {S : List Addr} {x : Addr} {o : HO} (h : off H S x = some o) : H x = some o := off_sub x o h
theorem Bx.bx {H : Hp} {b : Addr} (B : Bx H b) : Bx H b := B
theorem Bx.ne {H : Hp} {b p : Addr} (B : Bx H b) (h : H p = none) : p ≠ b := fun e => by
  obtain ⟨x, y, z, B⟩ := B
  rw [e, B] at h; cases h
theorem Bx.same {H H' : Hp} {b : Addr} (B : Bx H b) (s : Same H H') : Bx H' b := by
  obtain ⟨x, y, z, B⟩ := B
  exact ⟨x, y, z, s _ _ B⟩
theorem Bx.put {H : Hp} {b p : Addr} {o : HO} (B : Bx H b) (h : H p = none) : Bx (upd H p o) b := B.same (same_upd h)
theorem Bx.wr {H : Hp} {b p : Addr} {o : HO} (B : Bx H b) (h : p ≠ b) : Bx (upd H p o) b := by
  obtain ⟨x, y, z, B⟩ := B
  exact ⟨x, y, z, by rw [upd_ne h.symm]; exact B⟩
/-- all of S are there -/
def Live (S : List Addr) (H : Hp) : Prop := ∀ s ∈ S, H s ≠ none
theorem Live.same {S : List Addr} {H H' : Hp} (L : Live S H) (s : Same H H') : Live S H' := fun x hx e => by
  cases h : H x with
  | none => exact L x hx h
  | some o => rw [s x o h] at e; cases e
theorem Live.box {S : List Addr} {H H' : Hp} {b : Addr} (L : Live S H) (B : Bx H' b) (s : Sm [b] H H') : Live S H' := fun x hx e => by
  by_cases hb : x = b
  · obtain ⟨_, _, _, B⟩ := B
    rw [hb, B] at e; cases e
  · have n : x ∉ [b] := fun z => hb (List.mem_singleton.mp z)
    cases h : H x with
    | none => exact L x hx h
    | some o =>
      have := s x o (by rw [off_out n]; exact h)
      rw [off_out n, e] at this; cases this
theorem Live.put {S : List Addr} {H : Hp} {p : Addr} {o : HO} (L : Live S H) (h : H p = none) : Live S (upd H p o) := L.same (same_upd h)
theorem Live.wr {S : List Addr} {H : Hp} {p : Addr} {o : HO} (L : Live S H) : Live S (upd H p o) := fun x hx e => by
  by_cases hp : x = p
  · rw [hp, upd_same] at e; cases e
  · rw [upd_ne hp] at e; exact L x hx e
theorem Live.one {H : Hp} {b : Addr} (B : Bx H b) : Live [b] H := fun x hx e => by
  obtain ⟨_, _, _, B⟩ := B
  rw [List.mem_singleton.mp hx, B] at e; cases e
theorem Live.out {S : List Addr} {H : Hp} {p : Addr} (L : Live S H) (h : H p = none) : p ∉ S := fun z => L p z h
theorem Live.cons {S : List Addr} {H : Hp} {p : Addr} {o : HO} (L : Live S H) (h : H p = some o) : Live (p :: S) H := fun x hx e => by
  rcases List.mem_cons.mp hx with z | z
  · rw [z, h] at e; cases e
  · exact L x z e
theorem off_new {H : Hp} {S : List Addr} {p : Addr} {o : HO} (L : Live S H) (h : H p = none) : off (upd H p o) S p = some o := by
  rw [off_out (L.out h)]; exact upd_same
theorem off_upd {H : Hp} {S : List Addr} {p : Addr} {o : HO} (h : p ∉ S) : off (upd H p o) S p = some o := by
  rw [off_out h]; exact upd_same
section
variable {K : PySem.W.Frag}
theorem sq_off {H : Hp} {S : List Addr} {a : Addr} {xs : List V} (h : SqL K (off H S) a xs) : SqL K H a xs := off_sub.seq h
theorem sqt_off {H : Hp} {S : List Addr} {a : Addr} {xs : List V} (h : SqT K (off H S) a xs) : SqT K H a xs := same_tup off_sub h
theorem dp_off {H : Hp} {S : List Addr} {v : V} {d : PyData} (h : Dp K (off H S) v d) : Dp K H v d := dp_same off_sub h
/-- a new list is none of S, beside which the rest stands as it was -/
theorem off_fresh {H : Hp} {S : List Addr} {p : Addr} {o : HO} (h : H p = none) : off (upd H p o) (p :: S) = off H S := by
  funext x; unfold off
  by_cases e : x = p
  · subst e
    rw [if_pos List.mem_cons_self, h]
    split <;> rfl
  · have : (x ∈ p :: S) ↔ x ∈ S := by rw [List.mem_cons]; exact ⟨fun z => z.resolve_left e, .inr⟩
    by_cases m : x ∈ S
    · rw [if_pos m, if_pos (this.mpr m)]
    · rw [if_neg m, if_neg fun z => m (this.mp z), upd_ne e]
end
/-! ### what is made of numbers, texts, truths, None, lists and tuples -/
/-- numbers within m, texts of at most 2000 signs -/
def gdAll (m : Nat) : List PyData → Prop
  | [] => True
  | x :: xs => gd m x ∧ gdAll m xs
where gd (m : Nat) : PyData → Prop
  | .none => True
  | .bool _ => True
  | .int i => i.natAbs ≤ m
  | .str x => x.length ≤ 2000 ∧ ∀ c ∈ x.cps.toList, c < 1114112
  | .list xs => gdAll m xs
  | .tuple xs => gdAll m xs
  | .dict _ => False
abbrev gd (m : Nat) (d : PyData) : Prop := gdAll.gd m d
theorem gdAll_iff {m : Nat} : ∀ {ds : List PyData}, gdAll m ds ↔ ∀ d ∈ ds, gd m d
  | [] => ⟨fun _ _ h => (List.not_mem_nil h).elim, fun _ => trivial⟩
  | x :: xs => by
    constructor
    · intro h d hd
      rcases List.mem_cons.mp hd with e | e
      · rw [e]; exact h.1
      · exact gdAll_iff.mp h.2 d e
    · intro h
      exact ⟨h x List.mem_cons_self, gdAll_iff.mpr fun d hd => h d (List.mem_cons_of_mem _ hd)⟩
mutual
theorem gd_mono {m n : Nat} (h : m ≤ n) : ∀ d : PyData, gd m d → gd n d
  | .none, _ => trivial
  | .bool _, _ => trivial
  | .int i, g => Nat.le_trans g h
  | .str _, g => g
  | .list xs, g => gdAll_mono h xs g
  | .tuple xs, g => gdAll_mono h xs g
  | .dict _, g => g.elim
theorem gdAll_mono {m n : Nat} (h : m ≤ n) : ∀ ds : List PyData, gdAll m ds → gdAll n ds
  | [], _ => trivial
  | x :: xs, g => ⟨gd_mono h x g.1, gdAll_mono h xs g.2⟩
end
theorem log_small' {i : Int} (h : i.natAbs ≤ 2000000) : i.natAbs.log2 < 1920 := by
  by_cases z : i.natAbs = 0
  · rw [z]; decide
  · have := (Nat.log2_lt z).mpr (show i.natAbs < 2 ^ 21 from Nat.lt_of_le_of_lt h (by decide))
    omega
mutual
theorem gd_fine {m : Nat} (h : m ≤ 2000000) : ∀ d : PyData, gd m d → fineAll.fine d
  | .none, _ => trivial
  | .bool _, _ => trivial
  | .int i, g => log_small' (Nat.le_trans g h)
  | .str _, g => fun c hc => Nat.lt_trans (g.2 c hc) (by decide)
  | .list xs, g => gdAll_fine h xs g
  | .tuple xs, g => gdAll_fine h xs g
  | .dict _, g => g.elim
theorem gdAll_fine {m : Nat} (h : m ≤ 2000000) : ∀ ds : List PyData, gdAll m ds → fineAll ds
  | [], _ => trivial
  | x :: xs, g => ⟨gd_fine h x g.1, gdAll_fine h xs g.2⟩
end
theorem costAll_app (xs ys : List PyData) : costAll (xs ++ ys) = costAll xs + costAll ys := by
  induction xs with
  | nil => simp [costAll]
  | cons x xs ih => simp only [List.cons_append, costAll, ih]; omega
theorem cost_mem {ds : List PyData} {d : PyData} (h : d ∈ ds) : costAll.cost d + 2 ≤ costAll ds := by
  induction ds with
  | nil => exact (List.not_mem_nil h).elim
  | cons x xs ih =>
    show _ ≤ costAll.cost x + 2 + costAll xs
    rcases List.mem_cons.mp h with e | e
    · rw [e]; omega
    · have := ih e; omega
theorem len_cost : ∀ ds : List PyData, 2 * ds.length ≤ costAll ds
  | [] => Nat.le_refl _
  | x :: xs => by
    have := len_cost xs
    show 2 * (xs.length + 1) ≤ costAll.cost x + 2 + costAll xs
    omega
theorem depthAll_iff {D : Nat} : ∀ {ds : List PyData}, PyData.depthAll ds ≤ D ↔ ∀ d ∈ ds, d.depth ≤ D
  | [] => ⟨fun _ _ h => (List.not_mem_nil h).elim, fun _ => Nat.zero_le _⟩
  | x :: xs => by
    show max x.depth (PyData.depthAll xs) ≤ D ↔ _
    rw [Nat.max_le, depthAll_iff (ds := xs)]
    constructor
    · rintro ⟨h1, h2⟩ d hd
      rcases List.mem_cons.mp hd with e | e
      · rw [e]; exact h1
      · exact h2 d e
    · intro h
      exact ⟨h x List.mem_cons_self, fun d hd => h d (List.mem_cons_of_mem _ hd)⟩
/-- rows of parts: of numbers within m, their cost, how deep and how wide each -/
structure Ths (m C D W : Nat) (ds : List PyData) : Prop where
  g : ∀ d ∈ ds, gd m d
  c : costAll ds ≤ C
  d : ∀ d ∈ ds, d.depth ≤ D
  w : ∀ d ∈ ds, widAll.wid d ≤ W
/-- a thing: of numbers within m, its cost, how deep, how wide -/
structure Th (m C D W : Nat) (dd : PyData) : Prop where
  g : gd m dd
  c : costAll.cost dd ≤ C
  d : dd.depth ≤ D
  w : widAll.wid dd ≤ W
theorem widAll_iff {D : Nat} : ∀ {ds : List PyData}, widAll ds ≤ D ↔ ∀ d ∈ ds, widAll.wid d ≤ D
  | [] => ⟨fun _ _ h => (List.not_mem_nil h).elim, fun _ => Nat.zero_le _⟩
  | x :: xs => by
    show max (widAll.wid x) (widAll xs) ≤ D ↔ _
    rw [Nat.max_le, widAll_iff (ds := xs)]
    constructor
    · rintro ⟨h1, h2⟩ d hd
      rcases List.mem_cons.mp hd with e | e
      · rw [e]; exact h1
      · exact h2 d e
    · intro h
      exact ⟨h x List.mem_cons_self, fun d hd => h d (List.mem_cons_of_mem _ hd)⟩
section
variable {m n C E D F W U : Nat} {d x : PyData} {ds xs ys : List PyData}
theorem Th.mono (h : Th m C D W d) (a : m ≤ n) (b : C ≤ E) (c : D ≤ F) (e : W ≤ U) : Th n E F U d := ⟨gd_mono a d h.g, Nat.le_trans h.c b, Nat.le_trans h.d c, Nat.le_trans h.w e⟩
theorem Ths.mono (h : Ths m C D W ds) (a : m ≤ n) (b : C ≤ E) (c : D ≤ F) (e : W ≤ U) : Ths n E F U ds := ⟨fun x hx => gd_mono a x (h.g x hx), Nat.le_trans h.c b, fun x hx => Nat.le_trans (h.d x hx) c, fun x hx => Nat.le_trans (h.w x hx) e⟩
theorem Ths.app (h : Ths m C D W xs) (k : Ths m E D W ys) : Ths m (C + E) D W (xs ++ ys) :=
  ⟨fun d hd => (List.mem_append.mp hd).elim (h.g d) (k.g d), by rw [costAll_app]; exact Nat.add_le_add h.c k.c, fun d hd => (List.mem_append.mp hd).elim (h.d d) (k.d d), fun d hd => (List.mem_append.mp hd).elim (h.w d) (k.w d)⟩
theorem Ths.nil : Ths m 0 D W [] := ⟨fun _ h => (List.not_mem_nil h).elim, Nat.le_refl _, fun _ h => (List.not_mem_nil h).elim, fun _ h => (List.not_mem_nil h).elim⟩
theorem Ths.one (h : Th m C D W x) : Ths m (C + 2) D W [x] :=
  ⟨fun d hd => by rw [List.mem_singleton.mp hd]; exact h.g, by show costAll.cost x + 2 + 0 ≤ _; have := h.c; omega, fun d hd => by rw [List.mem_singleton.mp hd]; exact h.d, fun d hd => by rw [List.mem_singleton.mp hd]; exact h.w⟩
theorem Ths.mem (h : Ths m C D W ds) (e : d ∈ ds) : Th m C D W d := ⟨h.g d e, by have := cost_mem e; have := h.c; omega, h.d d e, h.w d e⟩
theorem Ths.len (h : Ths m C D W ds) : 2 * ds.length ≤ C := Nat.le_trans (len_cost ds) h.c
theorem Ths.list (h : Ths m C D W ds) (l : ds.length ≤ W) : Th m (C + 3) (D + 1) W (.list ds) :=
  ⟨gdAll_iff.mpr h.g, by show costAll ds + 3 ≤ _; have := h.c; omega, by show PyData.depthAll ds + 1 ≤ _; have := depthAll_iff.mpr h.d; omega, by show max ds.length (widAll ds) ≤ W; exact Nat.max_le.mpr ⟨l, widAll_iff.mpr h.w⟩⟩
theorem Ths.tuple (h : Ths m C D W ds) (l : ds.length ≤ W) : Th m (C + 3) (D + 1) W (.tuple ds) :=
  ⟨gdAll_iff.mpr h.g, by show costAll ds + 3 ≤ _; have := h.c; omega, by show PyData.depthAll ds + 1 ≤ _; have := depthAll_iff.mpr h.d; omega, by show max ds.length (widAll ds) ≤ W; exact Nat.max_le.mpr ⟨l, widAll_iff.mpr h.w⟩⟩
theorem Th.ofList (h : Th m C D W (.list ds)) : Ths m (C - 3) (D - 1) W ds ∧ ds.length ≤ W ∧ 3 ≤ C ∧ 1 ≤ D := by
  have h1 : costAll ds + 3 ≤ C := h.c
  have h2 : PyData.depthAll ds + 1 ≤ D := h.d
  have h3 : max ds.length (widAll ds) ≤ W := h.w
  exact ⟨⟨gdAll_iff.mp h.g, by omega, depthAll_iff.mp (by omega), widAll_iff.mp (Nat.le_trans (Nat.le_max_right ..) h3)⟩, Nat.le_trans (Nat.le_max_left ..) h3, by omega, by omega⟩
theorem Th.ofTuple (h : Th m C D W (.tuple ds)) : Ths m (C - 3) (D - 1) W ds ∧ ds.length ≤ W ∧ 3 ≤ C ∧ 1 ≤ D := by
  have h1 : costAll ds + 3 ≤ C := h.c
  have h2 : PyData.depthAll ds + 1 ≤ D := h.d
  have h3 : max ds.length (widAll ds) ≤ W := h.w
  exact ⟨⟨gdAll_iff.mp h.g, by omega, depthAll_iff.mp (by omega), widAll_iff.mp (Nat.le_trans (Nat.le_max_right ..) h3)⟩, Nat.le_trans (Nat.le_max_left ..) h3, by omega, by omega⟩
theorem costAll_take (n : Nat) (ds : List PyData) : costAll (ds.take n) ≤ costAll ds := by
  have := costAll_app (ds.take n) (ds.drop n)
  rw [List.take_append_drop] at this; omega
theorem costAll_drop (n : Nat) (ds : List PyData) : costAll (ds.drop n) ≤ costAll ds := by
  have := costAll_app (ds.take n) (ds.drop n)
  rw [List.take_append_drop] at this; omega
theorem costAll_rev : ∀ ds : List PyData, costAll ds.reverse = costAll ds
  | [] => rfl
  | x :: xs => by rw [List.reverse_cons, costAll_app, costAll_rev xs]; show _ + (costAll.cost x + 2 + 0) = costAll.cost x + 2 + costAll xs; omega
theorem Ths.sub (h : Ths m C D W ds) (s : ∀ x ∈ xs, x ∈ ds) (c : costAll xs ≤ C) : Ths m C D W xs := ⟨fun d hd => h.g d (s d hd), c, fun d hd => h.d d (s d hd), fun d hd => h.w d (s d hd)⟩
theorem Ths.take (h : Ths m C D W ds) (n : Nat) : Ths m C D W (ds.take n) := h.sub (fun d hd => List.mem_of_mem_take hd) (Nat.le_trans (costAll_take n ds) h.c)
theorem Ths.drop (h : Ths m C D W ds) (n : Nat) : Ths m C D W (ds.drop n) := h.sub (fun d hd => List.mem_of_mem_drop hd) (Nat.le_trans (costAll_drop n ds) h.c)
theorem Ths.rev (h : Ths m C D W ds) : Ths m C D W ds.reverse := h.sub (fun d hd => List.mem_reverse.mp hd) (by rw [costAll_rev]; exact h.c)
theorem costAll_set : ∀ (ds : List PyData) (i : Nat) (x : PyData), costAll (ds.set i x) ≤ costAll ds + (costAll.cost x + 2)
  | [], _, _ => Nat.zero_le _
  | y :: ys, 0, x => by show costAll.cost x + 2 + costAll ys ≤ costAll.cost y + 2 + costAll ys + _; omega
  | y :: ys, i + 1, x => by
    have := costAll_set ys i x
    show costAll.cost y + 2 + costAll (ys.set i x) ≤ costAll.cost y + 2 + costAll ys + _
    omega
theorem Ths.set {i : Nat} (h : Ths m C D W ds) (k : Th m E D W x) : Ths m (C + E + 2) D W (ds.set i x) :=
  ⟨fun d hd => (List.mem_or_eq_of_mem_set hd).elim (h.g d) fun e => by rw [e]; exact k.g, Nat.le_trans (costAll_set ds i x) (by have := h.c; have := k.c; omega), fun d hd => (List.mem_or_eq_of_mem_set hd).elim (h.d d) fun e => by rw [e]; exact k.d, fun d hd => (List.mem_or_eq_of_mem_set hd).elim (h.w d) fun e => by rw [e]; exact k.w⟩
end
section
variable {K : PySem.W.Frag} {H : Hp}
theorem dpAll_app' : ∀ {xs ys : List V} {ds es : List PyData}, DpAll K H xs ds → DpAll K H ys es → DpAll K H (xs ++ ys) (ds ++ es)
  | _, _, _, _, .nil, h => h
  | _, _, _, _, .cons h t, h2 => .cons h (dpAll_app' t h2)
theorem dpAll_take : ∀ {xs : List V} {ds : List PyData} (n : Nat), DpAll K H xs ds → DpAll K H (xs.take n) (ds.take n)
  | _, _, 0, _ => .nil
  | _, _, _ + 1, .nil => .nil
  | _, _, n + 1, .cons h t => .cons h (dpAll_take n t)
theorem dpAll_drop : ∀ {xs : List V} {ds : List PyData} (n : Nat), DpAll K H xs ds → DpAll K H (xs.drop n) (ds.drop n)
  | _, _, 0, h => h
  | _, _, _ + 1, .nil => .nil
  | _, _, n + 1, .cons _ t => dpAll_drop n t
theorem dpAll_rev : ∀ {xs : List V} {ds : List PyData}, DpAll K H xs ds → DpAll K H xs.reverse ds.reverse
  | _, _, .nil => .nil
  | _, _, .cons h t => by rw [List.reverse_cons, List.reverse_cons]; exact dpAll_app' (dpAll_rev t) (.cons h .nil)
theorem dpAll_set : ∀ {xs : List V} {ds : List PyData} {i : Nat} {v : V} {d : PyData}, DpAll K H xs ds → Dp K H v d → DpAll K H (xs.set i v) (ds.set i d)
  | _, _, _, _, _, .nil, _ => .nil
  | _, _, 0, _, _, .cons _ t, k => .cons k t
  | _, _, _ + 1, _, _, .cons h t, k => .cons h (dpAll_set t k)
/-- a slice of a row of parts -/
theorem dp_cut {xs : List V} {ds : List PyData} {lo hi : Option Int} {m C D W : Nat} (h : DpAll K H xs ds) (t : Ths m C D W ds) : ∃ es, DpAll K H (cutV xs lo hi) es ∧ Ths m C D W es ∧ es.length ≤ ds.length := by
  unfold cutV
  exact ⟨_, dpAll_take _ (dpAll_drop _ h), (t.drop _).take _, by rw [List.length_take, List.length_drop]; omega⟩
theorem dp_lst' {v : V} {ds : List PyData} (h : Dp K H v (.list ds)) : ∃ a xs, v = .ref a ∧ SqL K H a xs ∧ DpAll K H xs ds := by
  cases h with
  | lst h a => exact ⟨_, _, rfl, h, a⟩
end
end Pot
namespace Pot
open PySem PySem.Spec PyProof.Rows L2
theorem sm_at {H H' : Hp} {S : List Addr} {x : Addr} {o : HO} (s : Sm S H H') (n : x ∉ S) (h : H x = some o) : H' x = some o := by
  have := s x o (by rw [off_out n]; exact h)
  rw [off_out n] at this; exact this
theorem sm1_at {H H' : Hp} {b x : Addr} {o : HO} (s : Sm [b] H H') (n : x ≠ b) (h : H x = some o) : H' x = some o := sm_at s (fun z => n (List.mem_singleton.mp z)) h
theorem smp {H H' : Hp} {S : List Addr} {p : Addr} {o : HO} (s : Sm S H H') (h : H p = none) : Sm S H (upd H' p o) := fun x u e => by
  have n := off_mem e
  have ne : x ≠ p := fun z => by
    rw [off_out n, z, h] at e; cases e
  have := s x u e
  rw [off_out n] at this ⊢
  rw [upd_ne ne]; exact this
theorem sm_free {H H' : Hp} {b l : Addr} (s : Sm [b] H H') (B : Bx H' b) (h : H' l = none) : H l = none := by
  have nb := B.ne h
  have n : l ∉ [b] := fun z => nb (List.mem_singleton.mp z)
  cases e : H l with
  | none => rfl
  | some o => rw [sm_at s n e] at h; cases h
theorem cut_map {α : Type} (f : α → V) (ns : List α) (lo hi : Option Int) : cutV (ns.map f) lo hi = ((ns.drop (HT.sIx ns.length 0 lo)).take (HT.sIx ns.length ns.length hi - HT.sIx ns.length 0 lo)).map f := by
  unfold cutV
  rw [List.length_map, List.map_take, List.map_drop]
theorem cut_head {xs : List V} {k : Nat} : cutV xs none (some (k : Int)) = xs.take k := by
  unfold cutV
  rw [HT.sIx_none, HT.sIx_nat, List.drop_zero, Nat.sub_zero]
  by_cases h : k ≤ xs.length
  · rw [Nat.min_eq_left h]
  · rw [Nat.min_eq_right (by omega), List.take_length, List.take_of_length_le (by omega)]
theorem cut_tail {xs : List V} {k : Nat} : cutV xs (some (k : Int)) none = xs.drop k := by
  unfold cutV
  rw [HT.sIx_none, HT.sIx_nat]
  by_cases h : k ≤ xs.length
  · rw [Nat.min_eq_left h, List.take_of_length_le (by rw [List.length_drop]; exact Nat.le_refl _)]
  · rw [Nat.min_eq_right (by omega), Nat.sub_self, List.take_zero, List.drop_of_length_le (by omega)]
end Pot
namespace Pot
open PySem PySem.Spec PyProof.Rows L2
section
variable {K : PySem.W.Frag} {H : Hp} {t : Addr} {d : PyData} {ds : List PyData}
theorem seq_dp {x : V} (h : Dp K H x d) (e : d = .list ds ∨ d = .tuple ds) : ∃ t zs, x = .ref t ∧ (SqL K H t zs ∨ SqT K H t zs) ∧ DpAll K H zs ds := by
  rcases e with rfl | rfl
  · cases h with
    | lst h a => exact ⟨_, _, rfl, .inl h, a⟩
  · cases h with
    | tup h a => exact ⟨_, _, rfl, .inr h, a⟩
theorem len_dp (h : Dp K H (.ref t) d) (e : d = .list ds ∨ d = .tuple ds) : LenV K (.ref t) H ds.length := by
  rcases e with rfl | rfl
  · cases h with
    | lst h a => exact .inl ⟨_, h, (dpAll_len a).symm⟩
  · cases h with
    | tup h a => exact .inr ⟨_, h, (dpAll_len a).symm⟩
theorem Th.parts {m C D W : Nat} (h : Th m C D W d) (e : d = .list ds ∨ d = .tuple ds) : Ths m (C - 3) (D - 1) W ds ∧ ds.length ≤ W ∧ 3 ≤ C ∧ 1 ≤ D := by
  rcases e with rfl | rfl
  · exact h.ofList
  · exact h.ofTuple
end
theorem sm_in {H H' : Hp} {S : List Addr} {x : Addr} {o : HO} (s : Sm S H H') (h : off H S x = some o) : off H' S x = some o := s x o h
end Pot
namespace Pot
open PySem PySem.Spec PyProof.Rows L2
theorem costAll_set_eq : ∀ {ds : List PyData} {i : Nat} {x y : PyData}, ds[i]? = some y → costAll (ds.set i x) + costAll.cost y = costAll ds + costAll.cost x
  | [], _, _, _, h => by simp at h
  | z :: zs, 0, x, y, h => by
    have e : z = y := by simpa using h
    subst e
    show costAll.cost x + 2 + costAll zs + costAll.cost z = costAll.cost z + 2 + costAll zs + costAll.cost x
    omega
  | z :: zs, i + 1, x, y, h => by
    have := costAll_set_eq (ds := zs) (i := i) (x := x) (y := y) (by simpa using h)
    show costAll.cost z + 2 + costAll (zs.set i x) + costAll.cost y = costAll.cost z + 2 + costAll zs + costAll.cost x
    omega
theorem codes_ofString (s : String) : ∀ c ∈ (Str.ofString s).cps.toList, c < 1114112 := by
  intro c hc
  rw [Str.ofString_eq_toList] at hc
  have : c ∈ s.toList.map Char.toNat := by simpa using hc
  obtain ⟨ch, _, rfl⟩ := List.mem_map.mp this
  have v := ch.valid
  have e : ch.toNat = ch.val.toNat := rfl
  rcases v with v | ⟨_, v⟩
  · have : ch.val.toNat < 0xD800 := v
    omega
  · have : ch.val.toNat < 0x110000 := v
    omega
theorem th_text {i : Int} (h : i.natAbs ≤ 2000000) {m : Nat} : Th m 19212 0 0 (.str (toString i)) := by
  have l : (Str.ofString (toString i)).length ≤ 1921 := PyProof.Rows.int_text_len_1921 (log_small' h)
  exact ⟨⟨by omega, codes_ofString _⟩, by show 10 * (Str.ofString (toString i)).length + 2 ≤ 19212; omega, Nat.le_refl _, Nat.le_refl _⟩
end Pot

namespace Pot
open PySem PySem.Spec PyProof.Rows L2
theorem Ths.parts2 {m C E D W a b : Nat} {ds es : List PyData} (h : Ths m C D W ds) (hab : a ≤ b) (k : Ths m E D W es) : Ths m (C + E) D W (ds.take a ++ es ++ ds.drop b) := by
  have mem : ∀ d, d ∈ ds.take a ++ es ++ ds.drop b → d ∈ ds ∨ d ∈ es := fun d hd => by
    rcases List.mem_append.mp hd with z | z
    · rcases List.mem_append.mp z with y | y
      · exact .inl (List.mem_of_mem_take y)
      · exact .inr y
    · exact .inl (List.mem_of_mem_drop z)
  refine ⟨fun d hd => (mem d hd).elim (h.g d) (k.g d), ?_, fun d hd => (mem d hd).elim (h.d d) (k.d d), fun d hd => (mem d hd).elim (h.w d) (k.w d)⟩
  rw [costAll_app, costAll_app]
  have e := costAll_app (ds.take a) (ds.drop a)
  rw [List.take_append_drop] at e
  have e2 : ds.drop b = (ds.drop a).drop (b - a) := by rw [List.drop_drop]; congr 1; omega
  have e3 := costAll_drop (b - a) (ds.drop a)
  rw [← e2] at e3
  have := h.c
  have := k.c
  omega
end Pot

namespace Pot
open PySem PySem.Spec PyProof.Rows L2
theorem nodup_le {α : Type} [BEq α] [LawfulBEq α] : ∀ {ks l : List α}, ks.Nodup → (∀ k ∈ ks, k ∈ l) → ks.length ≤ l.length
  | [], _, _, _ => Nat.zero_le _
  | k :: ks, l, h, s => by
    have hk := s k List.mem_cons_self
    have h2 := (List.nodup_cons.mp h)
    have := nodup_le (ks := ks) (l := l.erase k) h2.2 fun x hx => by
      have ne : x ≠ k := fun e => h2.1 (e ▸ hx)
      exact (List.mem_erase_of_ne ne).mpr (s x (List.mem_cons_of_mem _ hx))
    rw [List.length_erase_of_mem hk] at this
    have : 0 < l.length := List.length_pos_of_mem hk
    simp only [List.length_cons]
    omega
section
variable {X : Cx} {K : PySem.W.Frag}
theorem ko_notIn (h : X.K = K := by rfl) : OpR X (compareOp .NotIn) (rIn K true) := h ▸ op_notIn_seq
/-- set(xs) of ints: how many members it has -/
def rSetLj (K : PySem.W.Frag) (w : World) : List V → Hp → VK → Prop := fun xs H Q => ∃ (a : Addr) (ns : List Int), xs = [V.ref a] ∧ SqL K H a (ns.map V.int) ∧ ns.length ≤ 4000 ∧
  ∀ (p : Addr) (ks : List Int), H p = none → ks.Nodup → (∀ k, k ∈ ks ↔ k ∈ ns) → Q (.ref p) (upd H p (SetO w p (fun k => decide (k ∈ ns)) ks.length))
theorem cr_setLj (hc : X.calm = true) : CallR X (.type "set") (rSetLj X.K X.w) := by
  intro pins s σ H vs us Q I r h
  obtain ⟨a, ns, rfl, hS, hl, q⟩ := h
  rw [Vals.ref1 r]
  obtain ⟨its, rv, pl, hz⟩ := I.list hS
  refine call_set_li ns (I.ok.hd hc) pl.isList (by simpa using Vals.ints rv) (by unfold scanBound; omega) fun s' f => ?_
  obtain ⟨h', tk, c, rfl, R, hcn, k⟩ := f
  have hn : H s.heap.objs.size = none := I.hok.fresh (Nat.le_refl _)
  have J : Inv X pins σ (upd H s.heap.objs.size (SetO X.w s.heap.objs.size (fun k => decide (k ∈ ns)) c)) { s with heap := h', toks := tk } := I.laid (t' := tk) k (Nat.le_refl _) (setO_new R)
  obtain ⟨o, es, ep, t, _, _, _, _, nod, mem, _, _, size, _⟩ := R
  have q2 := q s.heap.objs.size (es.toList.map keyOf) hn nod fun k => by rw [← mem k, decide_eq_true_eq]
  rw [List.length_map, Array.length_toList, size] at q2
  exact ⟨.ref s.heap.objs.size, _, J, rfl, q2⟩
theorem kc_setLj {w : World} (hc : X.calm = true := by rfl) (h : X.K = K := by rfl) (hw : X.w = w := by rfl) : CallR X (.type "set") (rSetLj K w) := by subst h; subst hw; exact cr_setLj hc
end
end Pot

namespace Pot
open PySem PySem.Spec PyProof.Rows L2
/-! ### kinds of data -/
def tyD : PyData → String
  | .none => "NoneType"
  | .bool _ => "bool"
  | .int _ => "int"
  | .str _ => "str"
  | .list _ => "list"
  | .tuple _ => "tuple"
  | .dict _ => "dict"
def isIntD : PyData → Bool
  | .int _ => true
  | .bool _ => true
  | _ => false
def isBoolD : PyData → Bool
  | .bool _ => true
  | _ => false
def isStrD : PyData → Bool
  | .str _ => true
  | _ => false
def isListD : PyData → Bool
  | .list _ => true
  | _ => false
def isTupD : PyData → Bool
  | .tuple _ => true
  | _ => false
section
variable {K : PySem.W.Frag} {H : Hp} {x : V} {d : PyData} {Q : VK}
theorem tyx_dp (h : Dp K H x d) : TyX K H x (.type (tyD d)) := by
  cases h with
  | non => exact .base .non
  | bl b => exact .base (.bl b)
  | int i => exact .base (.int i)
  | str z => exact .base (.str z)
  | lst h _ => exact tyx_list h
  | tup h _ => exact tyx_tup h
theorem kit_int (h : Dp K H x d) : PySem.W.kitOne K (.type (tyD d)) (.type "int") = some (isIntD d) := by
  cases h with
  | non => exact kit_ty (show kitB "NoneType" "int" = some false by decide +kernel)
  | bl _ => exact kit_ty (show kitB "bool" "int" = some true by decide +kernel)
  | int _ => exact kit_ty (show kitB "int" "int" = some true by decide +kernel)
  | str _ => exact kit_ty (show kitB "str" "int" = some false by decide +kernel)
  | lst _ _ => exact kit_ty (show kitB "list" "int" = some false by decide +kernel)
  | tup _ _ => exact kit_ty (show kitB "tuple" "int" = some false by decide +kernel)
theorem kit_bool (h : Dp K H x d) : PySem.W.kitOne K (.type (tyD d)) (.type "bool") = some (isBoolD d) := by
  cases h with
  | non => exact kit_ty (show kitB "NoneType" "bool" = some false by decide +kernel)
  | bl _ => exact kit_ty (show kitB "bool" "bool" = some true by decide +kernel)
  | int _ => exact kit_ty (show kitB "int" "bool" = some false by decide +kernel)
  | str _ => exact kit_ty (show kitB "str" "bool" = some false by decide +kernel)
  | lst _ _ => exact kit_ty (show kitB "list" "bool" = some false by decide +kernel)
  | tup _ _ => exact kit_ty (show kitB "tuple" "bool" = some false by decide +kernel)
theorem kit_str (h : Dp K H x d) : PySem.W.kitOne K (.type (tyD d)) (.type "str") = some (isStrD d) := by
  cases h with
  | non => exact kit_ty (show kitB "NoneType" "str" = some false by decide +kernel)
  | bl _ => exact kit_ty (show kitB "bool" "str" = some false by decide +kernel)
  | int _ => exact kit_ty (show kitB "int" "str" = some false by decide +kernel)
  | str _ => exact kit_ty (show kitB "str" "str" = some true by decide +kernel)
  | lst _ _ => exact kit_ty (show kitB "list" "str" = some false by decide +kernel)
  | tup _ _ => exact kit_ty (show kitB "tuple" "str" = some false by decide +kernel)
theorem kit_list (h : Dp K H x d) : PySem.W.kitOne K (.type (tyD d)) (.type "list") = some (isListD d) := by
  cases h with
  | non => exact kit_ty (show kitB "NoneType" "list" = some false by decide +kernel)
  | bl _ => exact kit_ty (show kitB "bool" "list" = some false by decide +kernel)
  | int _ => exact kit_ty (show kitB "int" "list" = some false by decide +kernel)
  | str _ => exact kit_ty (show kitB "str" "list" = some false by decide +kernel)
  | lst _ _ => exact kit_ty (show kitB "list" "list" = some true by decide +kernel)
  | tup _ _ => exact kit_ty (show kitB "tuple" "list" = some false by decide +kernel)
theorem kit_tup (h : Dp K H x d) : PySem.W.kitOne K (.type (tyD d)) (.type "tuple") = some (isTupD d) := by
  cases h with
  | non => exact kit_ty (show kitB "NoneType" "tuple" = some false by decide +kernel)
  | bl _ => exact kit_ty (show kitB "bool" "tuple" = some false by decide +kernel)
  | int _ => exact kit_ty (show kitB "int" "tuple" = some false by decide +kernel)
  | str _ => exact kit_ty (show kitB "str" "tuple" = some false by decide +kernel)
  | lst _ _ => exact kit_ty (show kitB "list" "tuple" = some false by decide +kernel)
  | tup _ _ => exact kit_ty (show kitB "tuple" "tuple" = some true by decide +kernel)
theorem kit_lt (h : Dp K H x d) : PySem.W.kitAny K (.type (tyD d)) [.type "list", .type "tuple"] = some (isListD d || isTupD d) := by
  cases h <;> rfl
end
/-! ### numbers within bounds -/
def numD (lo hi : Int) : PyData → Bool
  | .int i => decide (lo ≤ i) && decide (i ≤ hi)
  | _ => false
def toI : PyData → Int
  | .int i => i
  | _ => 0
theorem numD_int {lo hi : Int} : ∀ {d : PyData}, numD lo hi d = true → d = .int (toI d) ∧ lo ≤ toI d ∧ toI d ≤ hi
  | .int i, h => by
    obtain ⟨h1, h2⟩ := Bool.and_eq_true_iff.mp (show (decide (lo ≤ i) && decide (i ≤ hi)) = true from h)
    exact ⟨rfl, of_decide_eq_true h1, of_decide_eq_true h2⟩
/-- rising -/
def risI : List Int → Bool
  | a :: b :: r => decide (a < b) && risI (b :: r)
  | _ => true
def risD (lo hi : Int) : PyData → Bool
  | .list ds => ds.all (numD lo hi) && risI (ds.map toI)
  | _ => false
theorem risI_pair : ∀ {ns : List Int}, risI ns = true ↔ ns.Pairwise (· < ·)
  | [] => by simp [risI]
  | [a] => by simp [risI]
  | a :: b :: r => by
    have ih := risI_pair (ns := b :: r)
    show (decide (a < b) && risI (b :: r)) = true ↔ _
    rw [Bool.and_eq_true_iff, decide_eq_true_eq, ih]
    constructor
    · rintro ⟨h1, h2⟩
      refine List.pairwise_cons.mpr ⟨fun x hx => ?_, h2⟩
      rcases List.mem_cons.mp hx with e | e
      · rw [e]; exact h1
      · exact Int.lt_trans h1 ((List.pairwise_cons.mp h2).1 x e)
    · intro h
      obtain ⟨h1, h2⟩ := List.pairwise_cons.mp h
      exact ⟨h1 b List.mem_cons_self, h2⟩
theorem nums_of {lo hi : Int} {ds : List PyData} (h : ds.all (numD lo hi) = true) : ds = (ds.map toI).map PyData.int ∧ ∀ k ∈ ds.map toI, lo ≤ k ∧ k ≤ hi := by
  rw [List.all_eq_true] at h
  constructor
  · rw [List.map_map]
    conv => lhs; rw [← List.map_id ds]
    exact List.map_congr_left fun d hd => (numD_int (h d hd)).1
  · intro k hk
    obtain ⟨d, hd, rfl⟩ := List.mem_map.mp hk
    exact (numD_int (h d hd)).2
section
variable {K : PySem.W.Frag} {H : Hp}
theorem dp_intsV : ∀ {xs : List V} {ns : List Int}, DpAll K H xs (ns.map PyData.int) → xs = ns.map V.int
  | [], [], _ => rfl
  | [], _ :: _, h => by cases h
  | _ :: _, [], h => by cases h
  | x :: xs, n :: ns, h => by
    cases h with
    | cons h t => cases h; rw [dp_intsV t]; rfl
end
/-- of a row that rises just the same: a row in which all stand in order, none twice -/
theorem sorted_uniq : ∀ {xs ys : List Int}, xs.Pairwise (· < ·) → ys.Pairwise (· < ·) → (∀ k, k ∈ xs ↔ k ∈ ys) → xs = ys
  | [], [], _, _, _ => rfl
  | [], y :: ys, _, _, h => by have := (h y).mpr List.mem_cons_self; simp at this
  | x :: xs, [], _, _, h => by have := (h x).mp List.mem_cons_self; simp at this
  | x :: xs, y :: ys, h1, h2, h => by
    rw [List.pairwise_cons] at h1 h2
    have e : x = y := by
      rcases List.mem_cons.mp ((h x).mp List.mem_cons_self) with e | e
      · exact e
      · rcases List.mem_cons.mp ((h y).mpr List.mem_cons_self) with e2 | e2
        · exact e2.symm
        · have := h2.1 x e; have := h1.1 y e2; omega
    subst e
    have : xs = ys := sorted_uniq h1.2 h2.2 fun k => by
      constructor
      · intro hk
        rcases List.mem_cons.mp ((h k).mp (List.mem_cons_of_mem _ hk)) with e | e
        · have := h1.1 k hk; omega
        · exact e
      · intro hk
        rcases List.mem_cons.mp ((h k).mpr (List.mem_cons_of_mem _ hk)) with e | e
        · have := h2.1 k hk; omega
        · exact e
    rw [this]
theorem eqv_ints : ∀ xs ys : List Int, PyData.eqv (.list (xs.map PyData.int)) (.list (ys.map PyData.int)) = decide (xs = ys)
  | [], [] => rfl
  | [], _ :: _ => rfl
  | _ :: _, [] => rfl
  | x :: xs, y :: ys => by
    have ih := eqv_ints xs ys
    show (PyData.eqv (.int x) (.int y) && PyData.eqvAll (xs.map PyData.int) (ys.map PyData.int)) = _
    rw [show PyData.eqvAll (xs.map PyData.int) (ys.map PyData.int) = decide (xs = ys) from ih]
    show ((x == y) && _) = _
    by_cases h : x = y
    · subst h; simp
    · simp [h]
/-- thing == sorted(set(thing)): just where it rises -/
theorem eq_sorted {ns zs : List Int} (h : zs.Pairwise (· < ·)) (m : ∀ k, k ∈ zs ↔ k ∈ ns) : decide (ns = zs) = risI ns := by
  by_cases e : ns = zs
  · rw [decide_eq_true e, e]; exact (risI_pair.mpr h).symm
  · rw [decide_eq_false e]
    cases hr : risI ns with
    | false => rfl
    | true => exact absurd (sorted_uniq (risI_pair.mp hr) h fun k => (m k).symm) e
theorem nodup_60 {ks : List Int} (h : ks.Nodup) (b : ∀ k ∈ ks, 0 ≤ k ∧ k ≤ 60) : ks.length < 64 := by
  have := nodup_le (l := (List.range 61).map fun (i : Nat) => (i : Int)) h fun k hk => by
    obtain ⟨h0, h1⟩ := b k hk
    exact List.mem_map.mpr ⟨k.toNat, List.mem_range.mpr (by omega), by omega⟩
  rw [List.length_map, List.length_range] at this
  omega
end Pot
namespace Pot
open PySem PySem.Spec PyProof.Rows L2
/-! ### a comprehension that changes nothing that stood: out i is what is told up to turn i -/
def PvL (H1 : Hp) (D : Addr) (out : Nat → List V) (i : Nat) (H2 : Hp) : Prop := Same H1 H2 ∧ H2 D = some (.lst (out i))
section
variable {H1 H2 H3 : Hp} {D : Addr} {out : Nat → List V} {i : Nat} {y : V}
theorem pv_start (nD : H1 D = none) (e : out 0 = []) : PvL H1 D out 0 (upd H1 D (.lst [])) := ⟨same_upd nD, by rw [e]; exact upd_same⟩
theorem pv_put (nD : H1 D = none) (p : PvL H1 D out i H2) (s : Same H2 H3) (e : out (i + 1) = out i ++ [y]) (l : (out i).length < sizeLine) : ∃ acc, H3 D = some (.lst acc) ∧ acc.length < sizeLine ∧ PvL H1 D out (i + 1) (upd H3 D (.lst (acc ++ [y]))) :=
  ⟨out i, s _ _ p.2, l, same_put (p.1.trans s) nD, by rw [e]; exact upd_same⟩
theorem pv_skip (p : PvL H1 D out i H2) (s : Same H2 H3) (e : out (i + 1) = out i) : PvL H1 D out (i + 1) H3 := ⟨p.1.trans s, by rw [e]; exact s _ _ p.2⟩
end
theorem take_map {α : Type} (f : α → V) {l : List α} {i : Nat} {x : α} (h : l[i]? = some x) : (l.take (i + 1)).map f = (l.take i).map f ++ [f x] := by
  rw [List.take_add_one, h, List.map_append]; rfl
theorem take_len_lt {α : Type} {f : α → V} {l : List α} {i : Nat} (h : i < 100000) : ((l.take i).map f).length < sizeLine := by
  rw [List.length_map, List.length_take, sizeLine_eq]; omega
theorem take_len_le {α : Type} {f : α → V} {l : List α} {i : Nat} (h : l.length < 100000) : ((l.take i).map f).length < sizeLine := by
  rw [List.length_map, List.length_take, sizeLine_eq]; omega
/-- each below the next -/
def rb : List Int → List Bool
  | a :: b :: r => decide (a < b) :: rb (b :: r)
  | _ => []
theorem rb_all : ∀ ns : List Int, (rb ns).all id = risI ns
  | [] => rfl
  | [_] => rfl
  | a :: b :: r => by show (decide (a < b) && (rb (b :: r)).all id) = _; rw [rb_all (b :: r)]; rfl
theorem rb_len : ∀ ns : List Int, (rb ns).length = ns.length - 1
  | [] => rfl
  | [_] => rfl
  | a :: b :: r => by show (rb (b :: r)).length + 1 = _; rw [rb_len (b :: r)]; simp
theorem rb_at : ∀ {ns : List Int} {i : Nat} {x y : Int}, ns[i]? = some x → ns[i + 1]? = some y → (rb ns)[i]? = some (decide (x < y))
  | [], _, _, _, h, _ => by simp at h
  | [_], i, _, _, _, h => by simp at h
  | a :: b :: r, 0, x, y, h, k => by
    have e1 : a = x := by simpa using h
    have e2 : b = y := by simpa using k
    subst e1 e2; rfl
  | a :: b :: r, i + 1, x, y, h, k => rb_at (ns := b :: r) (i := i) (by simpa using h) (by simpa using k)
/-- what is told of each of some data -/
theorem all_map {ds : List PyData} {f : PyData → Bool} : (ds.map f).all id = ds.all f := by
  rw [List.all_map]; rfl
end Pot
namespace Pot
open PySem PySem.Spec PyProof.Rows L2
theorem pv_end {H1 H2 : Hp} {D : Addr} {out : Nat → List V} {n : Nat} {zs : List V} (p : PvL H1 D out n H2) (e : out n = zs) : Same H1 H2 ∧ H2 D = some (.lst zs) := ⟨p.1, by rw [← e]; exact p.2⟩
theorem take_all {α : Type} {f : α → V} {l : List α} {n : Nat} (h : l.length ≤ n) : (l.take n).map f = l.map f := by rw [List.take_of_length_le h]
end Pot

namespace Pot
open PySem PySem.Spec PyProof.Rows L2
/-! ### palettes as data -/
abbrev Col := Str × Int × Int × Int
abbrev Wsh := Str × Str × Option Int
def colD (c : Col) : PyData := .tuple [.str c.1, .int c.2.1, .int c.2.2.1, .int c.2.2.2]
def optD : Option Int → PyData
  | none => .none
  | some i => .int i
def washD (r : Wsh) : PyData := .tuple [.str r.1, .str r.2.1, optD r.2.2]
def palD (cs : List Col) (ws : List Wsh) : PyData := .tuple [.tuple (cs.map colD), .tuple (ws.map washD)]
def optV : Option Int → V
  | none => .non
  | some i => .int i
def namV : Option Str → V
  | none => .non
  | some z => .str z
/-- the washing between two: the first row that tells -/
def washF (ws : List Wsh) (a : Option Str) (b : Str) : Option Int := match ws with
  | [] => some 0
  | r :: ws => if some r.1 = a ∧ r.2.1 = b then r.2.2 else washF ws a b
/-- the washing of a row -/
def sumF (ws : List Wsh) : Option Str → List Str → Int → Option Int
  | _, [], h => some h
  | a, b :: r, h => match washF ws a b with
    | none => none
    | some k => sumF ws (some b) r (h + k)
section
variable {K : PySem.W.Frag} {H : Hp}
theorem dp_tup {v : V} {ds : List PyData} (h : Dp K H v (.tuple ds)) : ∃ a xs, v = .ref a ∧ SqT K H a xs ∧ DpAll K H xs ds := by
  cases h with
  | tup h a => exact ⟨_, _, rfl, h, a⟩
theorem dp_lst {v : V} {ds : List PyData} (h : Dp K H v (.list ds)) : ∃ a xs, v = .ref a ∧ SqL K H a xs ∧ DpAll K H xs ds := by
  cases h with
  | lst h a => exact ⟨_, _, rfl, h, a⟩
theorem dp_str {v : V} {z : Str} (h : Dp K H v (.str z)) : v = .str z := by cases h; rfl
theorem dp_int {v : V} {z : Int} (h : Dp K H v (.int z)) : v = .int z := by cases h; rfl
theorem dp_opt {v : V} : ∀ {z : Option Int}, Dp K H v (optD z) → v = optV z
  | none, h => by cases h; rfl
  | some i, h => by cases h; rfl
theorem opt_dp : ∀ (z : Option Int), Dp K H (optV z) (optD z)
  | none => .non
  | some i => .int i
theorem dp_two {xs : List V} {d e : PyData} (h : DpAll K H xs [d, e]) : ∃ x y, xs = [x, y] ∧ Dp K H x d ∧ Dp K H y e := by
  cases h with
  | cons h1 t => cases t with
    | cons h2 t => cases t; exact ⟨_, _, rfl, h1, h2⟩
theorem dp_three {xs : List V} {d e f : PyData} (h : DpAll K H xs [d, e, f]) : ∃ x y z, xs = [x, y, z] ∧ Dp K H x d ∧ Dp K H y e ∧ Dp K H z f := by
  cases h with
  | cons h1 t => obtain ⟨y, z, rfl, h2, h3⟩ := dp_two t; exact ⟨_, _, _, rfl, h1, h2, h3⟩
theorem dp_four {xs : List V} {d e f g : PyData} (h : DpAll K H xs [d, e, f, g]) : ∃ x y z u, xs = [x, y, z, u] ∧ Dp K H x d ∧ Dp K H y e ∧ Dp K H z f ∧ Dp K H u g := by
  cases h with
  | cons h1 t => obtain ⟨y, z, u, rfl, h2, h3, h4⟩ := dp_three t; exact ⟨_, _, _, _, rfl, h1, h2, h3, h4⟩
/-- a colour's tuple -/
theorem col_dp {v : V} {c : Col} (h : Dp K H v (colD c)) : ∃ a, v = .ref a ∧ SqT K H a [.str c.1, .int c.2.1, .int c.2.2.1, .int c.2.2.2] := by
  obtain ⟨a, xs, rfl, hs, ha⟩ := dp_tup h
  obtain ⟨x, y, z, u, rfl, h1, h2, h3, h4⟩ := dp_four ha
  rw [dp_str h1, dp_int h2, dp_int h3, dp_int h4] at hs
  exact ⟨a, rfl, hs⟩
theorem wash_dp {v : V} {r : Wsh} (h : Dp K H v (washD r)) : ∃ a, v = .ref a ∧ SqT K H a [.str r.1, .str r.2.1, optV r.2.2] := by
  obtain ⟨a, xs, rfl, hs, ha⟩ := dp_tup h
  obtain ⟨x, y, z, rfl, h1, h2, h3⟩ := dp_three ha
  rw [dp_str h1, dp_str h2, dp_opt h3] at hs
  exact ⟨a, rfl, hs⟩
/-- a palette in the heap -/
theorem pal_dp {v : V} {cs : List Col} {ws : List Wsh} (h : Dp K H v (palD cs ws)) :
    ∃ p c w xs ys, v = .ref p ∧ SqT K H p [.ref c, .ref w] ∧ SqT K H c xs ∧ DpAll K H xs (cs.map colD) ∧ SqT K H w ys ∧ DpAll K H ys (ws.map washD) := by
  obtain ⟨p, zs, rfl, hp, hz⟩ := dp_tup h
  obtain ⟨x, y, rfl, h1, h2⟩ := dp_two hz
  obtain ⟨c, xs, rfl, hc, hx⟩ := dp_tup h1
  obtain ⟨w, ys, rfl, hw, hy⟩ := dp_tup h2
  exact ⟨p, c, w, xs, ys, rfl, hp, hc, hx, hw, hy⟩
theorem dpAll_map_at {α : Type} {f : α → PyData} {xs : List V} {l : List α} {i : Nat} {x : V} (h : DpAll K H xs (l.map f)) (e : xs[i]? = some x) : ∃ y, l[i]? = some y ∧ Dp K H x (f y) := by
  obtain ⟨d, g, p⟩ := dpAll_at h e
  rw [List.getElem?_map] at g
  obtain ⟨y, hy, rfl⟩ := Option.map_eq_some_iff.mp g
  exact ⟨y, hy, p⟩
theorem dpAll_map_len {α : Type} {f : α → PyData} {xs : List V} {l : List α} (h : DpAll K H xs (l.map f)) : xs.length = l.length := by
  rw [dpAll_len h, List.length_map]
end
theorem decS {a b : Str} : decide (V.str a = V.str b) = decide (a = b) := by
  by_cases h : a = b
  · subst h; rw [decide_eq_true rfl, decide_eq_true rfl]
  · rw [decide_eq_false h, decide_eq_false fun z => h (V.str.inj z)]
/-- behind rows that don't tell -/
theorem washF_skip {a : Option Str} {b : Str} : ∀ {ws : List Wsh} {i : Nat}, (∀ j r, j < i → ws[j]? = some r → ¬ (some r.1 = a ∧ r.2.1 = b)) → washF ws a b = washF (ws.drop i) a b
  | ws, 0, _ => rfl
  | [], i + 1, _ => rfl
  | r :: ws, i + 1, h => by
    show (if some r.1 = a ∧ r.2.1 = b then r.2.2 else washF ws a b) = washF (ws.drop i) a b
    rw [if_neg (h 0 r (Nat.succ_pos _) rfl)]
    exact washF_skip (a := a) (b := b) (ws := ws) (i := i) fun j q hj e => h (j + 1) q (Nat.succ_lt_succ hj) e
theorem washF_at {a : Option Str} {b : Str} {ws : List Wsh} {i : Nat} {r : Wsh} (h : ∀ j r, j < i → ws[j]? = some r → ¬ (some r.1 = a ∧ r.2.1 = b)) (e : ws[i]? = some r) (hr : some r.1 = a ∧ r.2.1 = b) : washF ws a b = r.2.2 := by
  rw [washF_skip h, List.drop_eq_getElem_cons (List.getElem?_eq_some_iff.mp e).1, (List.getElem?_eq_some_iff.mp e).2]
  unfold washF
  rw [if_pos hr]
theorem washF_none {a : Option Str} {b : Str} {ws : List Wsh} (h : ∀ j r, j < ws.length → ws[j]? = some r → ¬ (some r.1 = a ∧ r.2.1 = b)) : washF ws a b = some 0 := by
  rw [washF_skip h, List.drop_length]
  rfl
/-! ### data without lists stays while the law draws -/
def noLAll : List PyData → Prop
  | [] => True
  | x :: xs => noL x ∧ noLAll xs
where noL : PyData → Prop
  | .list _ => False
  | .dict _ => False
  | .tuple xs => noLAll xs
  | _ => True
section
variable {K : PySem.W.Frag}
theorem kp_tup {d c : Addr} {H H' : Hp} {n : Nat} {a : Addr} {xs : List V} (st : StAt H d c n) (k : Kp d c H H') (h : SqT K H a xs) : SqT K H' a xs := by
  obtain ⟨_, ys, t, h1, h2, _⟩ := st
  have go : ∀ o, (H a = some (.tup xs) ∨ H a = some (.frz o (.tup xs))) → a ≠ d ∧ a ≠ c := fun o e => by
    constructor
    · intro z; subst z; rw [h1] at e; rcases e with e | e <;> cases e
    · intro z; subst z; rw [h2] at e; rcases e with e | e <;> cases e
  rcases h with (h | ⟨o, h⟩) | h
  · have g := go ⟨.none, none, .fields #[], #[]⟩ (.inl h); exact .inl (.inl (k _ _ g.1 g.2 h))
  · have g := go o (.inr h); exact .inl (.inr ⟨o, k _ _ g.1 g.2 h⟩)
  · exact .inr h
mutual
theorem dp_kp {d c : Addr} {H H' : Hp} {n : Nat} (st : StAt H d c n) (k : Kp d c H H') : ∀ {v : V} {e : PyData}, noLAll.noL e → Dp K H v e → Dp K H' v e
  | _, _, _, .non => .non
  | _, _, _, .bl b => .bl b
  | _, _, _, .int i => .int i
  | _, _, _, .str x => .str x
  | _, _, h, .lst _ _ => h.elim
  | _, _, h, .tup s a => .tup (kp_tup st k s) (dpAll_kp st k h a)
theorem dpAll_kp {d c : Addr} {H H' : Hp} {n : Nat} (st : StAt H d c n) (k : Kp d c H H') : ∀ {vs : List V} {es : List PyData}, noLAll es → DpAll K H vs es → DpAll K H' vs es
  | _, _, _, .nil => .nil
  | _, _, h, .cons x t => .cons (dp_kp st k h.1 x) (dpAll_kp st k h.2 t)
end
mutual
theorem dp_go {H H' : Hp} (go : ∀ a us, SqT K H a us → SqT K H' a us) : ∀ {v : V} {e : PyData}, noLAll.noL e → Dp K H v e → Dp K H' v e
  | _, _, _, .non => .non
  | _, _, _, .bl b => .bl b
  | _, _, _, .int i => .int i
  | _, _, _, .str x => .str x
  | _, _, h, .lst _ _ => h.elim
  | _, _, h, .tup s a => .tup (go _ _ s) (dpAll_go go h a)
theorem dpAll_go {H H' : Hp} (go : ∀ a us, SqT K H a us → SqT K H' a us) : ∀ {vs : List V} {es : List PyData}, noLAll es → DpAll K H vs es → DpAll K H' vs es
  | _, _, _, .nil => .nil
  | _, _, h, .cons x t => .cons (dp_go go h.1 x) (dpAll_go go h.2 t)
end
theorem noL_map {α : Type} {f : α → PyData} (h : ∀ x, noLAll.noL (f x)) : ∀ l : List α, noLAll (l.map f)
  | [] => trivial
  | x :: r => ⟨h x, noL_map h r⟩
theorem noL_col (c : Col) : noLAll.noL (colD c) := ⟨trivial, trivial, trivial, trivial, trivial⟩
theorem noL_wash (r : Wsh) : noLAll.noL (washD r) := ⟨trivial, trivial, by cases r.2.2 <;> trivial, trivial⟩
theorem noL_pal (cs : List Col) (ws : List Wsh) : noLAll.noL (palD cs ws) := ⟨noL_map noL_col cs, noL_map noL_wash ws, trivial⟩
theorem dpAll_app {H : Hp} : ∀ {xs ys : List V} {ds es : List PyData}, DpAll K H xs ds → DpAll K H ys es → DpAll K H (xs ++ ys) (ds ++ es)
  | _, _, _, _, .nil, h => h
  | _, _, _, _, .cons h t, h2 => .cons h (dpAll_app t h2)
end
/-! ### how long a palette's text may be -/
structure PalOk (cs : List Col) (ws : List Wsh) : Prop where
  nc : cs.length ≤ 20
  nw : ws.length ≤ 60
  cn : ∀ c ∈ cs, c.1.length ≤ 9 ∧ (∀ x ∈ c.1.cps.toList, x < 1114112) ∧ c.2.1.natAbs < 10000 ∧ c.2.2.1.natAbs < 10000 ∧ c.2.2.2.natAbs < 10000
  wn : ∀ r ∈ ws, (r.1.length ≤ 9 ∧ ∀ x ∈ r.1.cps.toList, x < 1114112) ∧ (r.2.1.length ≤ 9 ∧ ∀ x ∈ r.2.1.cps.toList, x < 1114112) ∧ ∀ i, r.2.2 = some i → i.natAbs < 10000
theorem PalOk.addC {cs : List Col} {ws : List Wsh} {c : Col} (h : PalOk cs ws) (n : cs.length < 20) (ok : c.1.length ≤ 9 ∧ (∀ x ∈ c.1.cps.toList, x < 1114112) ∧ c.2.1.natAbs < 10000 ∧ c.2.2.1.natAbs < 10000 ∧ c.2.2.2.natAbs < 10000) : PalOk (cs ++ [c]) ws :=
  ⟨by rw [List.length_append]; exact n, h.nw, fun x hx => (List.mem_append.mp hx).elim (h.cn x) fun z => by rw [List.mem_singleton.mp z]; exact ok, h.wn⟩
theorem PalOk.addW {cs : List Col} {ws : List Wsh} {r : Wsh} (h : PalOk cs ws) (n : ws.length < 60) (ok : (r.1.length ≤ 9 ∧ ∀ x ∈ r.1.cps.toList, x < 1114112) ∧ (r.2.1.length ≤ 9 ∧ ∀ x ∈ r.2.1.cps.toList, x < 1114112) ∧ ∀ i, r.2.2 = some i → i.natAbs < 10000) : PalOk cs (ws ++ [r]) :=
  ⟨h.nc, by rw [List.length_append]; exact n, h.cn, fun x hx => (List.mem_append.mp hx).elim (h.wn x) fun z => by rw [List.mem_singleton.mp z]; exact ok⟩
theorem log_small {i : Int} (h : i.natAbs < 10000) : i.natAbs.log2 < 1920 := by
  by_cases z : i.natAbs = 0
  · rw [z]; decide
  · have := (Nat.log2_lt z).mpr (show i.natAbs < 2 ^ 14 from Nat.lt_of_lt_of_le h (by decide))
    omega
theorem fineAll_map {α : Type} {f : α → PyData} : ∀ {l : List α}, (∀ x ∈ l, fineAll.fine (f x)) → fineAll (l.map f)
  | [], _ => trivial
  | x :: r, h => ⟨h x List.mem_cons_self, fineAll_map fun y hy => h y (List.mem_cons_of_mem _ hy)⟩
theorem costAll_map {α : Type} {f : α → PyData} {b : Nat} : ∀ {l : List α}, (∀ x ∈ l, costAll.cost (f x) ≤ b) → costAll (l.map f) ≤ l.length * (b + 2)
  | [], _ => Nat.zero_le _
  | x :: r, h => by
    have h1 := h x List.mem_cons_self
    have h2 := costAll_map (l := r) fun y hy => h y (List.mem_cons_of_mem _ hy)
    show costAll.cost (f x) + 2 + costAll (r.map f) ≤ (r.length + 1) * (b + 2)
    rw [Nat.succ_mul]
    omega
theorem depthAll_map {α : Type} {f : α → PyData} {b : Nat} : ∀ {l : List α}, (∀ x ∈ l, (f x).depth ≤ b) → PyData.depthAll (l.map f) ≤ b
  | [], _ => Nat.zero_le _
  | x :: r, h => by
    show max (f x).depth (PyData.depthAll (r.map f)) ≤ b
    exact Nat.max_le.mpr ⟨h x List.mem_cons_self, depthAll_map fun y hy => h y (List.mem_cons_of_mem _ hy)⟩
theorem fine_col {c : Col} (h : c.1.length ≤ 9 ∧ (∀ x ∈ c.1.cps.toList, x < 1114112) ∧ c.2.1.natAbs < 10000 ∧ c.2.2.1.natAbs < 10000 ∧ c.2.2.2.natAbs < 10000) : fineAll.fine (colD c) :=
  ⟨fun x hx => Nat.lt_trans (h.2.1 x hx) (by decide), log_small h.2.2.1, log_small h.2.2.2.1, log_small h.2.2.2.2, trivial⟩
theorem fine_opt {o : Option Int} (h : ∀ i, o = some i → i.natAbs < 10000) : fineAll.fine (optD o) := by
  cases o with
  | none => trivial
  | some i => exact log_small (h i rfl)
theorem pal_fine {cs : List Col} {ws : List Wsh} (h : PalOk cs ws) : fineAll.fine (palD cs ws) :=
  ⟨fineAll_map fun c hc => fine_col (h.cn c hc), fineAll_map fun r hr => ⟨fun x hx => Nat.lt_trans ((h.wn r hr).1.2 x hx) (by decide), fun x hx => Nat.lt_trans ((h.wn r hr).2.1.2 x hx) (by decide), fine_opt (h.wn r hr).2.2, trivial⟩, trivial⟩
theorem cost_opt (o : Option Int) : costAll.cost (optD o) ≤ 1921 := by
  cases o with
  | none => decide
  | some i => exact Nat.le_refl _
theorem pal_cost {cs : List Col} {ws : List Wsh} (h : PalOk cs ws) : costAll.cost (palD cs ws) ≤ 1000000 := by
  have h1 : costAll (cs.map colD) ≤ cs.length * (10000 + 2) := costAll_map fun c hc => by
    have := (h.cn c hc).1
    show (10 * c.1.length + 2) + 2 + (1921 + 2 + (1921 + 2 + (1921 + 2 + 0))) + 3 ≤ 10000
    omega
  have h2 : costAll (ws.map washD) ≤ ws.length * (10000 + 2) := costAll_map fun r hr => by
    have a := (h.wn r hr).1.1
    have b := (h.wn r hr).2.1.1
    have c := cost_opt r.2.2
    show (10 * r.1.length + 2) + 2 + ((10 * r.2.1.length + 2) + 2 + (costAll.cost (optD r.2.2) + 2 + 0)) + 3 ≤ 10000
    omega
  have h3 := Nat.mul_le_mul_right 10002 h.nc
  have h4 := Nat.mul_le_mul_right 10002 h.nw
  show (costAll (cs.map colD) + 3) + 2 + ((costAll (ws.map washD) + 3) + 2 + 0) + 3 ≤ 1000000
  omega
theorem depth_opt (o : Option Int) : (optD o).depth = 0 := by cases o <;> rfl
theorem pal_depth (cs : List Col) (ws : List Wsh) : (palD cs ws).depth ≤ 3 := by
  have h1 : PyData.depthAll (cs.map colD) ≤ 1 := depthAll_map fun c _ => by show 1 ≤ 1; decide
  have h2 : PyData.depthAll (ws.map washD) ≤ 1 := depthAll_map fun r _ => by
    show max 0 (max 0 (max (optD r.2.2).depth 0)) + 1 ≤ 1
    rw [depth_opt]
    decide
  show max (PyData.depthAll (cs.map colD) + 1) (max (PyData.depthAll (ws.map washD) + 1) 0) + 1 ≤ 3
  omega
end Pot

namespace Pot
open PySem PySem.Spec PyProof.Rows L2
/-! ### a box of three numbers whose last is at most n -/
def Bq (H : Hp) (b : Addr) (n : Nat) : Prop := ∃ x y z : Int, H b = some (.lst [.int x, .int y, .int z]) ∧ 0 ≤ z ∧ z ≤ n
section
variable {H H' : Hp} {b p : Addr} {n m : Nat} {o : HO}
theorem Bq.bx (B : Bq H b n) : Bx H b := by
  obtain ⟨x, y, z, h, _⟩ := B
  exact ⟨x, y, z, h⟩
theorem Bq.same (B : Bq H b n) (s : Same H H') : Bq H' b n := by
  obtain ⟨x, y, z, h, h2⟩ := B
  exact ⟨x, y, z, s _ _ h, h2⟩
theorem Bq.put (B : Bq H b n) (h : H p = none) : Bq (upd H p o) b n := B.same (same_upd h)
theorem Bq.wr (B : Bq H b n) (h : p ≠ b) : Bq (upd H p o) b n := by
  obtain ⟨x, y, z, e, h2⟩ := B
  exact ⟨x, y, z, by rw [upd_ne h.symm]; exact e, h2⟩
theorem Bq.mono (B : Bq H b n) (h : n ≤ m) : Bq H b m := by
  obtain ⟨x, y, z, e, h1, h2⟩ := B
  exact ⟨x, y, z, e, h1, by omega⟩
theorem Bq.ne (B : Bq H b n) (h : H p = none) : p ≠ b := B.bx.ne h
theorem Live.q (B : Bq H b n) : Live [b] H := Live.one B.bx
end
theorem b01 (k : Bool) : -(2 ^ 64 : Int) < (if k = true then 1 else 0) ∧ (if k = true then 1 else 0) < (2 ^ 64 : Int) := by cases k <;> decide
theorem CDivW.of {i j : Int} (h0 : 0 < j) (h1 : j < 2 ^ 64) : CDivW i j := by
  refine ⟨h0, ?_⟩
  have z : j.natAbs ≠ 0 := by omega
  have := (Nat.log2_lt z).mpr (show j.natAbs < 2 ^ 64 by omega)
  omega
mutual
theorem gd_lay {m : Nat} : ∀ d : PyData, gd m d → d.canLay0 = true
  | .none, _ => rfl
  | .bool _, _ => rfl
  | .int _, _ => rfl
  | .str x, g => by
    show x.cps.all (fun c => decide (c < 0x110000)) = true
    rw [← Array.all_toList, List.all_eq_true]
    exact fun c hc => decide_eq_true (g.2 c hc)
  | .list xs, g => gdAll_lay xs g
  | .tuple xs, g => gdAll_lay xs g
  | .dict _, g => g.elim
theorem gdAll_lay {m : Nat} : ∀ ds : List PyData, gdAll m ds → PyData.canLayAll0 ds = true
  | [], _ => rfl
  | x :: xs, g => by
    show (x.canLay0 && PyData.canLayAll0 xs) = true
    rw [gd_lay x g.1, gdAll_lay xs g.2]; rfl
end
theorem Th.shaped {m C D W : Nat} {d : PyData} (h : Th m C D W d) (hD : D ≤ 64) : SeqAt.shaped d = true := by
  unfold SeqAt.shaped
  rw [gd_lay d h.g, decide_eq_true (Nat.le_trans h.d hD)]; rfl
theorem gd_shaped {m : Nat} {d : PyData} (h : gd m d) (hD : d.depth ≤ 64) : SeqAt.shaped d = true := by
  unfold SeqAt.shaped
  rw [gd_lay d h, decide_eq_true hD]; rfl
end Pot

set_option maxHeartbeats 2000000
namespace RLam
open PySem PySem.Spec PyProof.Rows L2 PySem.Calls
/-! ### a lambda with one value by place, its answer the first part of a row of a captured list, turned -/
section
variable {prog : Program} {w : World} {B : Around} {s : Shared}
theorem ld_captured {E : Value → Shared → Prop} {env : Env} {o : Str} {co : Addr} {v : Value} {Q : Value → Shared → Prop} {p : Pos} (hk : env.scope.kind = .function) (hl : env.kindOf o = some .free) (hc : env.cells.lookup o = some co) (hv : s.heap.IsCell co (some v))
    (h : Q v s) (hd : (o == ("__debug__" : Str)) = false) (hcd : (o == ("__classdict__" : Str)) = false) : wpAny (model prog w) B (eval (.Name o p) env) Q E s :=
  wpAny_Name (wpAny_loadName_free hk hl hc hv h hcd) hd
theorem ld_own {E : Value → Shared → Prop} {env : Env} {o : Str} {m : Str → Option Value} {v : Value} {Q : Value → Shared → Prop} {p : Pos} (hk : env.scope.kind = .function) (hl : env.kindOf o = some .local) (hn : s.heap.Ns env.locals m) (hv : m o = some v)
    (h : Q v s) (hd : (o == ("__debug__" : Str)) = false) : wpAny (model prog w) B (eval (.Name o p) env) Q E s :=
  wpAny_Name (wpAny_loadName_local hk hl hn hv h) hd
theorem turn_neg {f c' co L tp : Addr} {q o n : Str} {params : Arguments} {scope : Scope} {cl : List (Str × Addr)} {pm ctv : Value} {its us : List Value} {i : Nat} {t0 t1 : Tok} {r : Int} {p1 p2 p3 p4 p5 p6 : Pos} {j : Nat}
    (hf : s.heap.get? f = some (PySem.W.kla_obj "<lambda>" q params (.UnaryOp .USub (.Subscript (.Subscript (.Name o p1) (.Name n p2) p3) (.Constant (.int 0) j p4) p5) p6) scope cl pm c' ctv))
    (hcd : ∃ (oc : Obj) (vs : Array Value) (t : Tok), s.heap.get? c' = some oc ∧ oc.data = .fields vs ∧ vs[1]? = some (.str q t))
    (hroom : B.depth < recursionLimit) (lim : s.heap.NoLimit) (hco : scope.isCoroutine = false) (hge : scope.isGenerator = false) (hk : scope.kind = .function) (hnc : ∀ x ∈ scope.names, x.2 ≠ .cell)
    (hn : scope.names.lookup n = some .local) (ho : scope.names.lookup o = some .free)
    (hbind : ∀ (u v : Value), bindArgs (PySem.W.kla_fn "<lambda>" q params (.UnaryOp .USub (.Subscript (.Subscript (.Name o p1) (.Name n p2) p3) (.Constant (.int 0) j p4) p5) p6) scope cl pm u ctv) ⟨[v], []⟩ = pure [(n, v)])
    (hcl : cl.lookup o = some co) (hcell : s.heap.IsCell co (some (.ref L))) (hL : s.heap.IsList L its.toArray) (hi : its[i]? = some (.ref tp)) (hi63 : i < 2 ^ 63) (hT : IsTup s.heap tp us.toArray) (hu : us[0]? = some (.int r t1)) (hus : us.length < 2 ^ 63)
    (hd1 : (o == ("__debug__" : Str)) = false := by decide) (hd2 : (o == ("__classdict__" : Str)) = false := by decide) (hd3 : (n == ("__debug__" : Str)) = false := by decide) :
    wpAny (model prog w) B (call (.ref f) [.int (i : Int) t0]) (PySem.W.KeyPure (.int (-r)) s) (fun _ _ => False) s := by
  refine wpAny_call (PySem.W.kla_callFunE hroom hf rfl hco hge rfl ?_ ?_)
  · obtain ⟨oc, vs, t, a, b, c⟩ := hcd
    exact ⟨c', oc, vs, t, rfl, a, b, c⟩
  rw [hbind]
  refine wpAny_pure (wpAny_newFunctionEnv hnc (fun y hy => ?_) (fun h₁ hns hsb => ⟨lim.fresh _ hsb, ?_⟩) hk)
  · rw [List.mem_singleton] at hy
    rw [hy]
    exact hn
  have kp : ∀ b o, s.heap.get? b = some o → h₁.get? b = some o := fun b o e => hsb.extBut b o (Nat.ne_of_lt (Heap.lt_size e)) (Heap.get?_push_of_some _ e)
  have hcell' : h₁.IsCell co (some (.ref L)) := by
    obtain ⟨oc, e1, e2⟩ := hcell
    exact ⟨oc, kp _ _ e1, e2⟩
  have hL' : h₁.IsList L its.toArray := by
    obtain ⟨oc, e1, e2⟩ := hL
    exact ⟨oc, kp _ _ e1, e2⟩
  have hT' : IsTup h₁ tp us.toArray := hT.keeps kp
  refine PySem.W.kla_codeExpr ?_
  refine UnaryOp_ (Subscript_ (Subscript_ (ld_captured hk ho hcl hcell' (ld_own (v := .int (i : Int) t0) hk hn hns ?_ ?_ hd3) hd1 hd2)))
  · show ([(n, Value.int (i : Int) t0)] : List (Str × Value)).reverse.lookup n = _
    simp [List.lookup]
  · have l63 := line63
    refine item_listR (x := .ref tp) hL' (by omega) (by omega) (by simpa using hi) ?_ (by with_unfolding_all rfl)
    refine wpAny_Constant_int ?_
    refine subscriptTail_builtinR (x := .int r t1) hT'.typeIs slot_tuple_getitem.lookup (getItem_tuple (j := 0) (x := .int r t1) (Q := fun u s' => u = .int r t1 ∧ _) hT' (by omega) (by omega) ?_ ?_ ⟨rfl, ?_⟩) (by with_unfolding_all rfl)
    · rw [List.size_toArray]
      have hz : 0 < us.length := (List.getElem?_eq_some_iff.mp hu).1
      exact seqIndex_of (by omega) (by omega)
    · simpa using hu
    · exact neg_int ⟨_, _, rfl, fun b o e => kp b o e, .int _ _⟩
end

/-! ### lists of values -/
theorem each_of {β : Type} {f : β → V} : ∀ {bs : List β} {us : List Value}, Vals (bs.map f) us → PySem.W.EachIs (fun u b => RelV (f b) u) us bs
  | [], _, r => by
    cases r
    exact .nil
  | b :: bs, _, r => by
    cases r with
    | cons a r => exact .cons a (each_of r)
theorem of_each {β : Type} {f : β → V} : ∀ {bs : List β} {us : List Value}, PySem.W.EachIs (fun u b => RelV (f b) u) us bs → Vals (bs.map f) us
  | _, _, .nil => .nil
  | _, _, .cons a r => .cons a (of_each r)
theorem sqL_ext {K : PySem.W.Frag} {H H' : Hp} {a : Addr} {xs : List V} (h : SqL K H a xs) (e : LamX.ExtN H H') : SqL K H' a xs := by
  rcases h with (h | ⟨o, h⟩) | h
  · exact .inl (.inl (e _ _ h fun ps z => by cases z))
  · exact .inl (.inr ⟨o, e _ _ h fun ps z => by cases z⟩)
  · exact .inr h
theorem sqT_ext {K : PySem.W.Frag} {H H' : Hp} {a : Addr} {xs : List V} (h : SqT K H a xs) (e : LamX.ExtN H H') : SqT K H' a xs := by
  rcases h with (h | ⟨o, h⟩) | h
  · exact .inl (.inl (e _ _ h fun ps z => by cases z))
  · exact .inl (.inr ⟨o, e _ _ h fun ps z => by cases z⟩)
  · exact .inr h
/-- the names of a lambda with the parameter n that reads o -/
structure LamN (sc scope : Scope) (n o : Str) : Prop where
  kind : scope.kind = .function
  co : scope.isCoroutine = false
  gen : scope.isGenerator = false
  cells : ∀ x ∈ scope.names, x.2 ≠ .cell
  par : scope.names.lookup n = some .local
  free : scope.names.lookup o = some .free
  up : ∀ y ∈ scope.names, y.2 = .free → sc.names.lookup y.1 = some .cell ∨ sc.names.lookup y.1 = some .free
theorem cr_range1 {X : Cx} : CallR X (.type "range") (fun vs H Q => ∃ i, vs = [V.int i] ∧ ∀ p, H p = none → Q (.ref p) (upd H p (.rng 0 i))) := by
  intro pins s σ H vs us Q I r h
  obtain ⟨i, rfl, q⟩ := h
  obtain ⟨u1, rfl, ri⟩ := vals1 r
  obtain ⟨t, rfl⟩ := ri
  refine call_range_1 ⟨.ref s.heap.objs.size, upd H s.heap.objs.size (.rng 0 i), I.laid (t' := s.toks + 2) (fun b o e => Heap.get?_push_of_some _ e) (Nat.le_refl _) ?_, rfl, q _ (I.hok.fresh (Nat.le_refl _))⟩
  exact ⟨_, _, _, Heap.get?_push_size _ rfl⟩
/-- sorted(range(m), key=lambda n: -o[n][0]) -/
def tSortLam (K : PySem.W.Frag) (T : List (Addr × Str)) (io : Nat) (ta : TA) : TE := fun σ H Q => ta σ H fun vs H1 => ∃ (p L : Addr) (m : Nat) (xs : List V) (rk : Nat → Int), vs = [V.ref p] ∧ H1 p = some (.rng 0 (m : Int)) ∧ m ≤ 2 ^ 24 ∧ LamX.Tabs T H1 ∧
  σ[io]? = some (some (.ref L)) ∧ SqL K H1 L xs ∧ (∀ i, i < m → ∃ (tp : Addr) (us : List V), xs[i]? = some (.ref tp) ∧ SqT K H1 tp us ∧ us[0]? = some (.int (rk i))) ∧
  ∀ H2, LamX.ExtN H1 H2 → LamX.Tabs T H2 → ∀ q, H2 q = none → Q (.ref q) (upd H2 q (.lst (((List.range m).mergeSort fun i j => decide (-rk i ≤ -rk j)).map fun i : Nat => V.int (i : Int))))
section
variable {X : Cx} {k : Nat} {T : List (Addr × Str)} {io : Nat} {ta : TA} {e : Expr} {n o : Str} {c P : Addr} {params : Arguments} {scope : Scope} {p kpos lpos pos p1 p2 p3 p4 p5 p6 : Pos} {j : Nat}
theorem pe_sortLam (hc : X.calm = true) (hg : Gl X "sorted") (hm : X.mg "sorted" = none) (ha : PA X [e] ta) (TB : LamX.TabB X.base X.mg c P) (hcode : X.env.code = .ref c) (hmT : (P, X.env.qual ++ "<lambda>") ∈ T) (hu : ∀ p ∈ T, p.1 = P → p.2 = X.env.qual ++ "<lambda>")
    (hr : Room (k + 1) X.A) (L : LamN X.env.scope scope n o) (hN : X.N[io]? = some o) (hdef : defaultsOf params X.env = ([], []))
    (hbind : ∀ (q : Str) (cl : List (Str × Addr)) (pm ctv u v : Value), bindArgs (PySem.W.kla_fn "<lambda>" q params (.UnaryOp .USub (.Subscript (.Subscript (.Name o p1) (.Name n p2) p3) (.Constant (.int 0) j p4) p5) p6) scope cl pm u ctv) ⟨[v], []⟩ = pure [(n, v)])
    (hd1 : (o == ("__debug__" : Str)) = false := by decide) (hd2 : (o == ("__classdict__" : Str)) = false := by decide) (hd3 : (n == ("__debug__" : Str)) = false := by decide)
    (he : backTo pos (starEach [e] X.env) = (false, eval e X.env) :: backTo pos (starEach [] X.env) := by rfl) (hpl : (backTo pos (starEach [e] X.env)).any (·.1) = false := by rfl) :
    PE X (.Call (.Name "sorted" p) [e] [⟨some "key", .Lambda params (.UnaryOp .USub (.Subscript (.Subscript (.Name o p1) (.Name n p2) p3) (.Constant (.int 0) j p4) p5) p6) scope lpos, kpos⟩] pos) (tSortLam X.K T io ta) := by
  refine ⟨fun pins s σ H Q I h => ?_⟩
  refine wpAny_Call_Name_kw (ld_blt I hg hm (by rfl) ?_)
  refine PyProof.Rows.callWith_kw (thn (ha.run pos pins s σ H _ I h) fun us s1 ⟨vs, H1, I1, r1, q1⟩ => ?_) he hpl (by rfl) (by rfl)
  obtain ⟨pr, La, m, xs, rk, rfl, hpr, hm24, hT, hσ, hL, hrow, q⟩ := q1
  obtain rfl := Vals.ref1 r1
  have hfree : ∀ y ∈ scope.names, y.2 = .free → ∃ c, X.env.cells.lookup y.1 = some c := fun y hy e => by
    rcases L.up y hy e with k | k
    · exact I1.ok.has _ (.inl k)
    · exact I1.ok.has _ (.inr k)
  show wpAny _ _ (evalAll [do let v ← eval _ X.env; standAt pos; pure v]) _ _ s1
  refine wpAny_evalAll_cons (wpAny_bind (LamX.lam_make2 I1 TB hcode hmT hu hT hdef hfree fun f c' pm ctv H2 s2 I2 eN T2 hf hfn hfr hco => wpAny_bind (wpAny_standAt (wpAny_pure (wpAny_evalAll_nil ?_)))))
  show wpAny _ _ (call (.builtin "sorted") [.ref pr] [(Str.ofString "key", .ref f)]) _ _ _
  obtain ⟨tr, tr2, tr3, hrg⟩ := I2.hok pr _ (eN _ _ hpr fun ps z => by cases z)
  obtain ⟨⟨oc, vsc, tc, hoc, hdc, hvc⟩, _, _⟩ := I2.hok c' _ hco
  obtain ⟨its, rv, pl, hz⟩ := I2.list (sqL_ext hL eN)
  have hup := L.up (o, .free) (PySem.mem_of_lookup L.free) rfl
  obtain ⟨mm, hns, hlk⟩ := I2.loc
  obtain ⟨u0, ru0, hlook⟩ := hlk io o (.ref La) hN hσ (hup.elim (fun z => .inr (.inl z)) (fun z => .inr (.inr z)))
  obtain rfl : u0 = Value.ref La := ru0
  obtain ⟨co, hcc, hcell⟩ : ∃ co, X.env.cells.lookup o = some co ∧ s2.heap.IsCell co (some (.ref La)) := by
    rcases hlook with ⟨z, _⟩ | ⟨_, z⟩
    · have z : X.env.scope.names.lookup o = some .local := z
      rcases hup with y | y <;> rw [show X.env.scope.names.lookup o = _ from y] at z <;> cases z
    · exact z
  have hcl : (cloFrom X.env.cells scope.names []).lookup o = some co := by
    obtain ⟨c1, e1⟩ := mem_lookup (cloFrom_has (cells := X.env.cells) (acc := []) (PySem.mem_of_lookup L.free))
    rcases cloFrom_mem (PySem.mem_of_lookup e1) with hm | ⟨h1, h2⟩
    · cases hm
    · rw [e1, h2, hcc]
      rfl
  have lim2 := I2.nolimit
  refine PyProof.Rows.call_function_entry_kw PyProof.Rows.kind_sorted PyProof.Rows.plain_sorted PyProof.Rows.entry_sorted (PyProof.Rows.ksk_s1 _ _) ?_
  unfold Builtin.«sorted»
  refine wpAny_bind (m := checkCount "sorted" 1 1 _) (wpAny_pure ?_)
  refine wpAny_bind (L2.collect_range (A := X.A.in1) (a := 0) (b := (m : Int)) (c := 1) (n := m) (I2.ok.hd hc) hrg (small_one (by omega) (by omega) (by omega) (by omega)) (by have e := rangeSize_nat 0 (m : Int); rw [e]; omega) hm24 fun h' tk acc hk hacc => ?_)
  have I3 : Inv X pins σ H2 { s2 with heap := h', toks := tk } := I2.kept hk
  have hal : acc.toList.length = m := by rw [Array.length_toList]; exact hacc.1
  refine wpAny_bind (wpAny_newList ?_ (by rw [hal, sizeLine_eq]; omega))
  have hoL : (h'.push (seqObj "list" acc.toList.toArray 0)).get? h'.objs.size = some (seqObj "list" acc.toList.toArray 0) := Heap.get?_push_size _ rfl
  show wpAny _ _ _ _ _ { s2 with heap := h'.push (seqObj "list" acc.toList.toArray 0), toks := tk }
  have hE : PySem.W.EachIs (fun (u : Value) (i : Nat) => RelV (V.int (i : Int)) u) acc.toList (List.range m) := by
    refine each_of ?_
    rw [← hal]
    refine vals_of_get acc.toList _ fun j u hj => ?_
    obtain ⟨t, rfl⟩ := hacc.2 j u (by rw [← hj, Array.getElem?_toList])
    exact ⟨t, by rw [Int.mul_one, Int.zero_add]⟩
  have old : ∀ b o, s2.heap.get? b = some o → b ≠ h'.objs.size ∧ (h'.push (seqObj "list" acc.toList.toArray 0)).get? b = some o := fun b o e => ⟨Nat.ne_of_lt (Heap.lt_size (hk b o e)), Heap.get?_push_of_some _ (hk b o e)⟩
  refine wpAny_bind (wpAny_holding (PySem.W.list_sort_key_data (b := false) (s := { s2 with heap := h'.push (seqObj "list" acc.toList.toArray 0), toks := tk }) (fun i : Nat => PyData.int (-rk i)) hoL hE (PySem.W.AllAlike.of fun _ _ => rfl) (PySem.W.Sortable.others fun b => ⟨fun z => (nomatch z), fun xs z => (nomatch z)⟩) (by rw [List.length_range, sizeLine_eq]; omega)
    (fun x _ => ?_) (PyProof.Rows.ksk_l1 _ _) (PyProof.Rows.ksk_t1 _ _) (fun v i hv hi hh tk2 kp => ?_) fun out cc hh tk2 kp hD hlen eo => ?_))
  · have := hr.un
    show X.A.units + 1 + 1 + 0 < _
    omega
  · obtain ⟨t0, rfl⟩ := hv
    have hi' : i < m := List.mem_range.mp hi
    obtain ⟨tp, us, hx, hS, hu0⟩ := hrow i hi'
    have kp2 : ∀ b o, s2.heap.get? b = some o → hh.get? b = some o := fun b o e => kp b o (old b o e).1 (old b o e).2
    obtain ⟨w1, ew, rw1⟩ := rv.get hx
    obtain rfl : w1 = Value.ref tp := rw1
    obtain ⟨us', rv', pl', hz'⟩ := I2.tuple (sqT_ext hS eN)
    obtain ⟨w2, ew2, rw2⟩ := rv'.get hu0
    obtain ⟨t3, rfl⟩ := rw2
    have l63 := line63
    have hpL : hh.IsList La its.toArray := by
      obtain ⟨oc, e1, e2⟩ := pl.isList
      exact ⟨oc, kp2 _ _ e1, e2⟩
    have hpC : hh.IsCell co (some (.ref La)) := by
      obtain ⟨oc, e1, e2⟩ := hcell
      exact ⟨oc, kp2 _ _ e1, e2⟩
    exact turn_neg (s := { s2 with heap := hh, toks := tk2 }) (kp2 _ _ hf) ⟨oc, vsc, tc, kp2 _ _ hoc, hdc, hvc⟩ hr.depth (lim2.keeps kp2) L.co L.gen L.kind L.cells L.par L.free (fun u v => hbind _ _ _ _ _ _) hcl hpC hpL ew (by omega) (pl'.keeps kp2) ew2 (by have := rv'.length; omega) hd1 hd2 hd3
  · rw [PySem.W.dataLe_int] at eo
    have hE2 : Vals (((List.range m).mergeSort fun i j => decide (-rk i ≤ -rk j)).map fun i : Nat => V.int (i : Int)) out := of_each eo
    refine wpAny_pure ⟨_, rfl, .ref h'.objs.size, upd H2 h'.objs.size (.lst _), I3.laid (t' := tk2) (fun b u e => ?_) (Nat.le_refl _) ⟨?_, out, cc, hE2, hD⟩, rfl, q H2 eN T2 _ (I3.hok.fresh (Nat.le_refl _))⟩
    · exact kp b u (Nat.ne_of_lt (Heap.lt_size e)) (Heap.get?_push_of_some _ e)
    · rw [List.length_map, List.length_mergeSort, List.length_range, sizeLine_eq]
      omega
end
end RLam

namespace Pot
open PySem PySem.Spec PyProof.Rows L2
theorem up_by {sc scope : Scope} (h : (scope.names.all fun y => !decide (y.2 = .free) || (decide (sc.names.lookup y.1 = some .cell) || decide (sc.names.lookup y.1 = some .free))) = true) : ∀ y ∈ scope.names, y.2 = .free → sc.names.lookup y.1 = some .cell ∨ sc.names.lookup y.1 = some .free := fun y hy e => by
  have z := List.all_eq_true.mp h y hy
  simp only [Bool.or_eq_true, Bool.not_eq_true', decide_eq_true_eq, decide_eq_false_iff_not] at z
  exact z.resolve_left fun n => n e
/-! ### a def whose code object is known -/
theorem okC {P : Program} {w : World} {K : PySem.W.Frag} {mg : Str → Option Value} {base : Heap} {x qual : Str} {st : Stmt} {f c : Addr} {fd : FuncData} {N ps : List Str} {k : Nat} {sp : Sp} (F : Fun K x qual st f fd) (hc : fd.code = .ref c)
    (S : FnScope N ps (defScope st)) (many : ∀ vs H Q E, sp vs H Q E → vs.length = ps.length)
    (body : ∀ (A : Around) (outer : List Env) (s : Shared) (H : Hp) (vs : List V) (Q : VK) (E : XK), Room k (A.deeper (envOfC qual (defScope st) s.heap.objs.size f (.ref c))) → sp vs H Q E →
      ∃ t, PSs (cxOf CX0 P w K mg base N qual (defScope st) f (.ref c) A outer s H E).nox (defBody st) t ∧ t { nx := fun _ H' => Q .non H', rt := Q } (start N vs) H) : FnOk P w K mg base CX0 (k + 1) f fd ps sp := by
  obtain ⟨oc, od, kV, doc, pm, an, cdv, ct, osl, rfl, at_, code⟩ := F.ex
  have e : cdv = .ref c := hc
  subst e
  refine fn_of at_ code S many fun A outer s H vs Q E room want => ?_
  obtain ⟨t, ht, hq⟩ := body A outer s H vs Q E room want
  exact ⟨t, ht.nox, hq⟩
/-! ### the law's own call, where tables of code objects grow -/
theorem law_callGT {P : Program} {w : World} {K : PySem.W.Frag} {mg mb : Str → Option Value} {k : Nat} {fa a : Addr} {cs : List (Addr × Addr)} {fd : FuncData} {x : Str} {sp : Sp} {s : Shared} {vs : List Value} {ns : List Int}
    (kin : K.In s.heap) (glob : s.heap.Ns mainGlobals mg) (blt : s.heap.Ns builtinsNs mb) (boot : ∀ y : Str, y ≠ "__name__" → mb y = bootBuiltins y) (lim : s.heap.NoLimit) (gens : s.gens = #[])
    (tabs : ∀ p ∈ cs, s.heap.get? p.2 = some (PySem.W.tabObj #[])) (out : ∀ p ∈ cs, K.lookup p.2 = none) (code : ∀ p ∈ cs, PySem.W.CodeHd s.heap p.1 p.2)
    (bmain : ∃ (bm : Addr) (ob : Obj), mg "__builtins__" = some (.ref bm) ∧ bm ≠ builtinsNs ∧ s.heap.get? bm = some ob ∧ ob.cls = .type "module" ∧ ob.dict = some builtinsNs ∧ ob.data = .plain)
    (obj : s.heap.get? a = some { cls := .type "list", data := .seq vs.toArray }) (whole : IntsAre vs ns) (small : ns.length ≤ sizeLine) (room : Room k callerA)
    (F : ∀ base : Heap, K.In base → base.Ns mainGlobals mg → (∀ p ∈ cs, LamX.TabB base mg p.1 p.2) → FnG P w K mg base k fa fd [x] sp) (bind : ∀ (s : Shared) (u : Value), BindsTo s fd ⟨[u], []⟩ [(x, u)])
    (want : ∀ H : Hp, (∀ p ∈ cs, H p.2 = some (.tbl #[])) → SqL K H a (ns.map V.int) → sp [.ref a] H (fun v _ => v = .bl true) E0) :
    codeAny (model P w) callerA (.call (.ref fa) ⟨[.ref a], []⟩) (fun r s' => r = .ok (.ret (.bool true)) ∧ OldK s.heap s'.heap ∧ s'.os = s.os ∧ AllBare s'.gens) s := by
  have rv := vals_ints whole
  have nv := whole.length
  obtain ⟨isT, eT⟩ : ∃ isT : Addr → Prop, isT = fun b => ∃ p ∈ cs, p.2 = b := ⟨_, rfl⟩
  have inT : ∀ p ∈ cs, isT p.2 := fun p hp => by rw [eT]; exact ⟨p, hp, rfl⟩
  have atT : ∀ {b}, isT b → s.heap.get? b = some (PySem.W.tabObj #[]) := fun {b} h => by
    rw [eT] at h
    obtain ⟨p, hp, rfl⟩ := h
    exact tabs p hp
  have outT : ∀ {b}, isT b → K.lookup b = none := fun {b} h => by
    rw [eT] at h
    obtain ⟨p, hp, rfl⟩ := h
    exact out p hp
  have ofT : ∀ {b}, isT b → ∃ p ∈ cs, p.2 = b := fun {b} h => by rw [eT] at h; exact h
  have aT : ¬ isT a := fun h => by
    have z := (atT h).symm.trans obj
    have z2 : Data.fields #[] = Data.seq vs.toArray _ := congrArg Obj.data (Option.some.inj z)
    cases z2
  clear eT
  -- the tables, and the script where it isn't one of the written part
  obtain ⟨H, H1, H2, H3, H4⟩ : ∃ H : Hp, (∀ b, isT b → H b = some (.tbl #[])) ∧ SqL K H a (ns.map V.int) ∧ HOk P w H s.heap ∧ (∀ b u, H b = some u → (isT b ∧ u = .tbl #[]) ∨ (b = a ∧ K.lookup a = none ∧ ∃ ob xs, u = .frz ob (.lst xs))) := by
    have cl := fun b => Classical.propDecidable (isT b)
    cases lk : K.lookup a with
    | some o =>
      have same := kin a o lk
      rw [obj] at same
      cases same
      have hit : ∀ b u, (if isT b then some (HO.tbl #[]) else none) = some u → isT b ∧ u = .tbl #[] := fun b u z => by
        split at z
        · cases z; exact ⟨‹_›, rfl⟩
        · cases z
      refine ⟨fun b => if isT b then some (.tbl #[]) else none, fun b h => if_pos h, .inr ⟨_, vs.toArray, _, lk, rfl, rfl, rfl, by rw [List.size_toArray, nv]; exact small, by simpa using rv⟩, fun b u z => ?_, fun b u z => .inl (hit b u z)⟩
      obtain ⟨h, rfl⟩ := hit b u z
      exact atT h
    | none =>
      have hit : ∀ b u, (if isT b then some (HO.tbl #[]) else if b = a then some (HO.frz { cls := .type "list", data := .seq vs.toArray } (.lst (ns.map V.int))) else none) = some u → (isT b ∧ u = .tbl #[]) ∨ (b = a ∧ u = .frz { cls := .type "list", data := .seq vs.toArray } (.lst (ns.map V.int))) := fun b u z => by
        split at z
        · cases z; exact .inl ⟨‹_›, rfl⟩
        · split at z
          · cases z; exact .inr ⟨‹_›, rfl⟩
          · cases z
      refine ⟨fun b => if isT b then some (.tbl #[]) else if b = a then some (.frz { cls := .type "list", data := .seq vs.toArray } (.lst (ns.map V.int))) else none, fun b h => if_pos h, .inl (.inr ⟨{ cls := .type "list", data := .seq vs.toArray }, (if_neg aT).trans (if_pos rfl)⟩), fun b u z => ?_, fun b u z => (hit b u z).imp id fun h => ⟨h.1, rfl, _, _, h.2⟩⟩
      rcases hit b u z with ⟨h, rfl⟩ | ⟨rfl, rfl⟩
      · exact atT h
      · exact ⟨obj, by rw [List.length_map]; exact small, vs, _, rv, obj⟩
  have hid : ∀ {b : Addr} {o : Obj}, s.heap.get? b = some o → H b = none → (hidT s.heap H).get? b = some o := fun e n => hidT_get e n
  have no : ∀ {b : Addr} {o : Obj}, s.heap.get? b = some o → (∀ us n, o.data ≠ .seq us n) → o.data ≠ .fields #[] → H b = none := fun {b o} e n1 n2 => by
    cases q : H b with
    | none => rfl
    | some u =>
      rcases H4 b u q with ⟨h, _⟩ | ⟨rfl, _⟩
      · rw [atT h] at e
        cases e
        exact absurd rfl n2
      · rw [obj] at e
        cases e
        exact absurd rfl (n1 _ _)
  have kinB : K.In (hidT s.heap H) := fun b o e => hid (kin b o e) (by
    cases q : H b with
    | none => rfl
    | some u =>
      rcases H4 b u q with ⟨h, _⟩ | ⟨rfl, h, _⟩
      · rw [outT h] at e; cases e
      · rw [h] at e; cases e)
  have ns_ : ∀ {b : Addr} {m : Str → Option Value}, s.heap.Ns b m → (hidT s.heap H).Ns b m := fun {b m} h => by
    obtain ⟨o, es, ep, e, d, r⟩ := h
    exact ⟨o, es, ep, hid e (no e (fun us n z => by rw [d] at z; cases z) fun z => by rw [d] at z; cases z), d, r⟩
  have md : Mod K mg (hidT s.heap H) := ⟨kinB, ns_ glob, ⟨mb, ns_ blt, boot⟩, by obtain ⟨mc, h1, h2⟩ := lim; exact ⟨mc, ns_ h1, h2⟩⟩
  have globNe : ∀ {b : Addr} {o : Obj}, s.heap.get? b = some o → (∀ es ep, o.data ≠ .dict es ep) → b ≠ mainGlobals := fun {b o} e n z => by
    obtain ⟨o2, es, ep, e2, d, _⟩ := glob
    rw [z, e2] at e
    cases e
    exact n _ _ d
  have tb : ∀ p ∈ cs, LamX.TabB (hidT s.heap H) mg p.1 p.2 := fun p hp => by
    have hTp := tabs p hp
    refine ⟨?_, ?_, fun z => globNe hTp (fun es ep q => by cases q) z.symm⟩
    · obtain ⟨o, us, file, tf, flags, tg, inF, text, tt, e1, r1, r2, r3, r⟩ := code p hp
      exact ⟨o, us, file, tf, flags, tg, inF, text, tt, hid e1 (no e1 (fun us n z => by rw [r2] at z; cases z) fun z => by rw [r2] at z; cases z; simp at r3), r1, r2, r3, r⟩
    · obtain ⟨bm, ob, b1, b2, b3, b4, b5, b6⟩ := bmain
      refine ⟨bm, ob, b1, b2, globNe b3 (fun es ep q => by rw [b6] at q; cases q), fun q => ?_, hid b3 (no b3 (fun us n z => by rw [b6] at z; cases z) fun z => by rw [b6] at z; cases z), b4, b5, b6⟩
      rw [q, hTp] at b3
      cases b3
      cases b6
  have e0 : Env0 P w K mg (hidT s.heap H) callerA [] s H := ⟨rfl, md, fun b o e => of_hidT e, Nat.le_of_eq (hidT_size _ _), trivial, (fun b hb => nomatch (show b ∈ ([] : List Addr) from hb)), H3, .of_eq gens⟩
  refine codeAny_mono ((F _ kinB (ns_ glob) tb).does callerA [] s H ⟨[.ref a], []⟩ [.ref a] [.ref a] _ rfl room e0 (bind s (.ref a)) (.cons rfl .nil) (want H (fun p hp => H1 _ (inT p hp)) H2)) fun res s' h => ?_
  rcases res with _ | fl
  case error => exact (show False from h).elim
  cases fl <;> first | exact (show False from h).elim | skip
  obtain ⟨v, H', os, bare, un, fine', rel, q⟩ := h
  cases (show v = .bl true from q)
  cases (show _ = Value.bool true from rel)
  have key : ∀ b o, ¬ isT b → s.heap.get? b = some o → s'.heap.get? b = some o := fun b o nb e => by
    cases q : H b with
    | none => exact un.keep b o e q (fun z => nomatch (show b ∈ ([] : List Addr) from z)) (fun z => nomatch z)
    | some u =>
      rcases H4 b u q with ⟨h, _⟩ | ⟨rfl, _, ob, xs, rfl⟩
      · exact absurd h nb
      · have e1 := (H3 _ _ q).1
        have e2 := (fine' _ _ (un.frzs _ ob _ q)).1
        rw [e] at e1; cases e1
        exact e2
  have grow : ∀ {b}, isT b → ∃ more : Array Value, s'.heap.get? b = some (PySem.W.tabObj more) := fun {b} h => by
    obtain ⟨more, z⟩ := un.tbls b #[] (H1 b h)
    exact ⟨_, fine' b _ z⟩
  refine ⟨rfl, ⟨fun b o e => ?_, fun b o e => ?_⟩, os, bare⟩
  · by_cases hb : isT b
    · obtain ⟨more, hm⟩ := grow hb
      obtain ⟨p, hp, rfl⟩ := ofT hb
      rw [tabs p hp] at e
      cases e
      exact .inr (.inl ⟨((code p hp).tab (tabs p hp)).isCodeTable, rfl, #[], more, rfl, (by rw [Array.empty_append]; exact hm)⟩)
    · exact .inl (key b o hb e)
  · by_cases hb : isT b
    · exact (grow hb).elim fun more hm => ⟨_, hm⟩
    · exact ⟨o, key b o hb e⟩
theorem walkGT {l : PySem.W.OpenLaw} {n k : Nat} {q : Program} {loose : List Str} {XP : (Str → Option Value) → Heap → Prop} {YP : World → Heap → Prop} {d : DefRec} {K : Params → PySem.W.Frag} {x : Str}
    (most : l.most = some n) (fits : n ≤ sizeLine) (plain : d.params.defaults = []) (room : Room k callerA) (part : ∀ (w : World) (h : Heap), YP w h → (K w.params).In h)
    (F : ∀ (w : World) (mg : Str → Option Value) (fa : Addr) (h : Heap), YP w h → (K w.params).In h → h.Ns mainGlobals mg → mg d.name = some (.ref fa) →
      ∃ (fd : FuncData) (cs : List (Addr × Addr)) (sp : Sp), (∀ p ∈ cs, h.get? p.2 = some (PySem.W.tabObj #[])) ∧ (∀ p ∈ cs, (K w.params).lookup p.2 = none) ∧ (∀ p ∈ cs, PySem.W.CodeHd h p.1 p.2) ∧ (∀ (s : Shared) (u : Value), BindsTo s fd ⟨[u], []⟩ [(x, u)]) ∧
        (∀ (H : Hp) (a : Addr) (ns : List Int), ns.length ≤ n → (∀ p ∈ cs, H p.2 = some (.tbl #[])) → SqL (K w.params) H a (ns.map V.int) → sp [.ref a] H (fun v _ => v = .bl true) E0) ∧
        ∀ base : Heap, (K w.params).In base → base.Ns mainGlobals mg → (∀ p ∈ cs, LamX.TabB base mg p.1 p.2) → FnG l.prog w (K w.params) mg base k fa fd [x] sp) :
    PySem.W.WalkO q loose XP YP l.row.toRowW d [] (fun f vs => PySem.call f vs) := by
  refine Att.attach_call most plain fun w s₀ s₁ mg mb fa o pm cd doc a vs ns G Y _ _ _ named obj whole len gens => ?_
  obtain ⟨fd, cs, sp, hT, nT, C, bind, want, hF⟩ := F w mg fa _ Y (part w _ Y) G.T.g named
  exact law_callGT (part w _ Y) G.T.g G.T.b G.T.builtins G.T.nolimit gens hT nT C G.T.bmain obj whole (Nat.le_trans len fits) room hF bind fun H hH seq => want H a ns len hH seq
end Pot

set_option maxHeartbeats 2000000
namespace RLam
open PySem PySem.Spec PyProof.Rows L2 PySem.Calls
/-! ### a lambda with one value by place, its answer the pair of the first part of a row of a captured list and the value itself -/
section
variable {prog : Program} {w : World} {B : Around} {s : Shared}
theorem turn_pair {f c' co L tp : Addr} {q o n : Str} {params : Arguments} {scope : Scope} {cl : List (Str × Addr)} {pm ctv : Value} {its us : List Value} {i : Nat} {t0 t1 : Tok} {r : Int} {p1 p2 p3 p4 p5 p6 p7 : Pos} {x1 : Nat} {j : Nat}
    (hf : s.heap.get? f = some (PySem.W.kla_obj "<lambda>" q params (.Tuple [.Subscript (.Subscript (.Name o p1) (.Name n p2) p3) (.Constant (.int 0) j p4) p5, .Name n p6] x1 p7) scope cl pm c' ctv))
    (hcd : ∃ (oc : Obj) (vs : Array Value) (t : Tok), s.heap.get? c' = some oc ∧ oc.data = .fields vs ∧ vs[1]? = some (.str q t))
    (hroom : B.depth < recursionLimit) (lim : s.heap.NoLimit) (hco : scope.isCoroutine = false) (hge : scope.isGenerator = false) (hk : scope.kind = .function) (hnc : ∀ x ∈ scope.names, x.2 ≠ .cell)
    (hn : scope.names.lookup n = some .local) (ho : scope.names.lookup o = some .free)
    (hbind : ∀ (u v : Value), bindArgs (PySem.W.kla_fn "<lambda>" q params (.Tuple [.Subscript (.Subscript (.Name o p1) (.Name n p2) p3) (.Constant (.int 0) j p4) p5, .Name n p6] x1 p7) scope cl pm u ctv) ⟨[v], []⟩ = pure [(n, v)])
    (hcl : cl.lookup o = some co) (hcell : s.heap.IsCell co (some (.ref L))) (hL : s.heap.IsList L its.toArray) (hi : its[i]? = some (.ref tp)) (hi63 : i < 2 ^ 63) (hT : IsTup s.heap tp us.toArray) (hu : us[0]? = some (.int r t1)) (hus : us.length < 2 ^ 63)
    (hd1 : (o == ("__debug__" : Str)) = false := by decide) (hd2 : (o == ("__classdict__" : Str)) = false := by decide) (hd3 : (n == ("__debug__" : Str)) = false := by decide) :
    wpAny (model prog w) B (call (.ref f) [.int (i : Int) t0]) (PySem.W.KeyPure (.tuple [.int r, .int (i : Int)]) s) (fun _ _ => False) s := by
  refine wpAny_call (PySem.W.kla_callFunE hroom hf rfl hco hge rfl ?_ ?_)
  · obtain ⟨oc, vs, t, a, b, c⟩ := hcd
    exact ⟨c', oc, vs, t, rfl, a, b, c⟩
  rw [hbind]
  refine wpAny_pure (wpAny_newFunctionEnv hnc (fun y hy => ?_) (fun h₁ hns hsb => ⟨lim.fresh _ hsb, ?_⟩) hk)
  · rw [List.mem_singleton] at hy
    rw [hy]
    exact hn
  have kp : ∀ b o, s.heap.get? b = some o → h₁.get? b = some o := fun b o e => hsb.extBut b o (Nat.ne_of_lt (Heap.lt_size e)) (Heap.get?_push_of_some _ e)
  have hcell' : h₁.IsCell co (some (.ref L)) := by
    obtain ⟨oc, e1, e2⟩ := hcell
    exact ⟨oc, kp _ _ e1, e2⟩
  have hL' : h₁.IsList L its.toArray := by
    obtain ⟨oc, e1, e2⟩ := hL
    exact ⟨oc, kp _ _ e1, e2⟩
  have hT' : IsTup h₁ tp us.toArray := hT.keeps kp
  refine PySem.W.kla_codeExpr ?_
  refine wpAny_Tuple_spliced ?_
  refine Calls.spliced_cons ?_
  refine Subscript_ (Subscript_ (ld_captured hk ho hcl hcell' (ld_own (v := .int (i : Int) t0) hk hn hns ?_ ?_ hd3) hd1 hd2))
  · show ([(n, Value.int (i : Int) t0)] : List (Str × Value)).reverse.lookup n = _
    simp [List.lookup]
  · have l63 := line63
    refine item_listR (x := .ref tp) hL' (by omega) (by omega) (by simpa using hi) ?_ (by with_unfolding_all rfl)
    refine wpAny_Constant_int ?_
    refine subscriptTail_builtinR (x := .int r t1) hT'.typeIs slot_tuple_getitem.lookup (getItem_tuple (j := 0) (x := .int r t1) (Q := fun u s' => u = .int r t1 ∧ _) hT' (by omega) (by omega) ?_ ?_ ⟨rfl, ?_⟩) (by with_unfolding_all rfl)
    · rw [List.size_toArray]
      have hz : 0 < us.length := (List.getElem?_eq_some_iff.mp hu).1
      exact seqIndex_of (by omega) (by omega)
    · simpa using hu
    · refine Calls.spliced_cons (ld_own (v := .int (i : Int) t0) hk hn hns ?_ (Calls.spliced_nil ?_) hd3)
      · show ([(n, Value.int (i : Int) t0)] : List (Str × Value)).reverse.lookup n = _
        simp [List.lookup]
      · refine ⟨by show 2 ≤ sizeLine; decide, _, _, rfl, fun b o e => Heap.get?_push_of_some _ (kp b o e), ?_⟩
        exact .tuple (Heap.get?_push_size _ rfl) rfl rfl (.cons (.int _ _) (.cons (.int _ _) .nil))
end
/-- sorted(range(m), key=lambda n: (o[n][0], n)) -/
def tSortLamP (K : PySem.W.Frag) (T : List (Addr × Str)) (io : Nat) (ta : TA) : TE := fun σ H Q => ta σ H fun vs H1 => ∃ (p L : Addr) (m : Nat) (xs : List V) (rk : Nat → Int), vs = [V.ref p] ∧ H1 p = some (.rng 0 (m : Int)) ∧ m ≤ 2 ^ 24 ∧ LamX.Tabs T H1 ∧
  σ[io]? = some (some (.ref L)) ∧ SqL K H1 L xs ∧ (∀ i, i < m → ∃ (tp : Addr) (us : List V), xs[i]? = some (.ref tp) ∧ SqT K H1 tp us ∧ us[0]? = some (.int (rk i))) ∧
  ∀ H2, LamX.ExtN H1 H2 → LamX.Tabs T H2 → ∀ q, H2 q = none → Q (.ref q) (upd H2 q (.lst (((List.range m).mergeSort fun i j => decide (rk i < rk j ∨ (rk i = rk j ∧ (i : Int) ≤ (j : Int)))).map fun i : Nat => V.int (i : Int))))
section
variable {X : Cx} {k : Nat} {T : List (Addr × Str)} {io : Nat} {ta : TA} {e : Expr} {n o : Str} {c P : Addr} {params : Arguments} {scope : Scope} {p kpos lpos pos p1 p2 p3 p4 p5 p6 p7 : Pos} {x1 : Nat} {j : Nat}
theorem pe_sortLamP (hc : X.calm = true) (hg : Gl X "sorted") (hm : X.mg "sorted" = none) (ha : PA X [e] ta) (TB : LamX.TabB X.base X.mg c P) (hcode : X.env.code = .ref c) (hmT : (P, X.env.qual ++ "<lambda>") ∈ T) (hu : ∀ p ∈ T, p.1 = P → p.2 = X.env.qual ++ "<lambda>")
    (hr : Room (k + 1) X.A) (L : LamN X.env.scope scope n o) (hN : X.N[io]? = some o) (hdef : defaultsOf params X.env = ([], []))
    (hbind : ∀ (q : Str) (cl : List (Str × Addr)) (pm ctv u v : Value), bindArgs (PySem.W.kla_fn "<lambda>" q params (.Tuple [.Subscript (.Subscript (.Name o p1) (.Name n p2) p3) (.Constant (.int 0) j p4) p5, .Name n p6] x1 p7) scope cl pm u ctv) ⟨[v], []⟩ = pure [(n, v)])
    (hd1 : (o == ("__debug__" : Str)) = false := by decide) (hd2 : (o == ("__classdict__" : Str)) = false := by decide) (hd3 : (n == ("__debug__" : Str)) = false := by decide)
    (he : backTo pos (starEach [e] X.env) = (false, eval e X.env) :: backTo pos (starEach [] X.env) := by rfl) (hpl : (backTo pos (starEach [e] X.env)).any (·.1) = false := by rfl) :
    PE X (.Call (.Name "sorted" p) [e] [⟨some "key", .Lambda params (.Tuple [.Subscript (.Subscript (.Name o p1) (.Name n p2) p3) (.Constant (.int 0) j p4) p5, .Name n p6] x1 p7) scope lpos, kpos⟩] pos) (tSortLamP X.K T io ta) := by
  refine ⟨fun pins s σ H Q I h => ?_⟩
  refine wpAny_Call_Name_kw (ld_blt I hg hm (by rfl) ?_)
  refine PyProof.Rows.callWith_kw (thn (ha.run pos pins s σ H _ I h) fun us s1 ⟨vs, H1, I1, r1, q1⟩ => ?_) he hpl (by rfl) (by rfl)
  obtain ⟨pr, La, m, xs, rk, rfl, hpr, hm24, hT, hσ, hL, hrow, q⟩ := q1
  obtain rfl := Vals.ref1 r1
  have hfree : ∀ y ∈ scope.names, y.2 = .free → ∃ c, X.env.cells.lookup y.1 = some c := fun y hy e => by
    rcases L.up y hy e with k | k
    · exact I1.ok.has _ (.inl k)
    · exact I1.ok.has _ (.inr k)
  show wpAny _ _ (evalAll [do let v ← eval _ X.env; standAt pos; pure v]) _ _ s1
  refine wpAny_evalAll_cons (wpAny_bind (LamX.lam_make2 I1 TB hcode hmT hu hT hdef hfree fun f c' pm ctv H2 s2 I2 eN T2 hf hfn hfr hco => wpAny_bind (wpAny_standAt (wpAny_pure (wpAny_evalAll_nil ?_)))))
  show wpAny _ _ (call (.builtin "sorted") [.ref pr] [(Str.ofString "key", .ref f)]) _ _ _
  obtain ⟨tr, tr2, tr3, hrg⟩ := I2.hok pr _ (eN _ _ hpr fun ps z => by cases z)
  obtain ⟨⟨oc, vsc, tc, hoc, hdc, hvc⟩, _, _⟩ := I2.hok c' _ hco
  obtain ⟨its, rv, pl, hz⟩ := I2.list (sqL_ext hL eN)
  have hup := L.up (o, .free) (PySem.mem_of_lookup L.free) rfl
  obtain ⟨mm, hns, hlk⟩ := I2.loc
  obtain ⟨u0, ru0, hlook⟩ := hlk io o (.ref La) hN hσ (hup.elim (fun z => .inr (.inl z)) (fun z => .inr (.inr z)))
  obtain rfl : u0 = Value.ref La := ru0
  obtain ⟨co, hcc, hcell⟩ : ∃ co, X.env.cells.lookup o = some co ∧ s2.heap.IsCell co (some (.ref La)) := by
    rcases hlook with ⟨z, _⟩ | ⟨_, z⟩
    · have z : X.env.scope.names.lookup o = some .local := z
      rcases hup with y | y <;> rw [show X.env.scope.names.lookup o = _ from y] at z <;> cases z
    · exact z
  have hcl : (cloFrom X.env.cells scope.names []).lookup o = some co := by
    obtain ⟨c1, e1⟩ := mem_lookup (cloFrom_has (cells := X.env.cells) (acc := []) (PySem.mem_of_lookup L.free))
    rcases cloFrom_mem (PySem.mem_of_lookup e1) with hm | ⟨h1, h2⟩
    · cases hm
    · rw [e1, h2, hcc]
      rfl
  have lim2 := I2.nolimit
  refine PyProof.Rows.call_function_entry_kw PyProof.Rows.kind_sorted PyProof.Rows.plain_sorted PyProof.Rows.entry_sorted (PyProof.Rows.ksk_s1 _ _) ?_
  unfold Builtin.«sorted»
  refine wpAny_bind (m := checkCount "sorted" 1 1 _) (wpAny_pure ?_)
  refine wpAny_bind (L2.collect_range (A := X.A.in1) (a := 0) (b := (m : Int)) (c := 1) (n := m) (I2.ok.hd hc) hrg (small_one (by omega) (by omega) (by omega) (by omega)) (by have e := rangeSize_nat 0 (m : Int); rw [e]; omega) hm24 fun h' tk acc hk hacc => ?_)
  have I3 : Inv X pins σ H2 { s2 with heap := h', toks := tk } := I2.kept hk
  have hal : acc.toList.length = m := by rw [Array.length_toList]; exact hacc.1
  refine wpAny_bind (wpAny_newList ?_ (by rw [hal, sizeLine_eq]; omega))
  have hoL : (h'.push (seqObj "list" acc.toList.toArray 0)).get? h'.objs.size = some (seqObj "list" acc.toList.toArray 0) := Heap.get?_push_size _ rfl
  show wpAny _ _ _ _ _ { s2 with heap := h'.push (seqObj "list" acc.toList.toArray 0), toks := tk }
  have hE : PySem.W.EachIs (fun (u : Value) (i : Nat) => RelV (V.int (i : Int)) u) acc.toList (List.range m) := by
    refine each_of ?_
    rw [← hal]
    refine vals_of_get acc.toList _ fun j u hj => ?_
    obtain ⟨t, rfl⟩ := hacc.2 j u (by rw [← hj, Array.getElem?_toList])
    exact ⟨t, by rw [Int.mul_one, Int.zero_add]⟩
  have old : ∀ b o, s2.heap.get? b = some o → b ≠ h'.objs.size ∧ (h'.push (seqObj "list" acc.toList.toArray 0)).get? b = some o := fun b o e => ⟨Nat.ne_of_lt (Heap.lt_size (hk b o e)), Heap.get?_push_of_some _ (hk b o e)⟩
  refine wpAny_bind (wpAny_holding (PySem.W.list_sort_key_data (b := false) (s := { s2 with heap := h'.push (seqObj "list" acc.toList.toArray 0), toks := tk }) (fun i : Nat => PyData.tuple [.int (rk i), .int (i : Int)]) hoL hE (PySem.W.AllAlike.of fun _ _ => rfl) (PySem.W.Sortable.tuples fun b => ⟨_, _, rfl⟩) (by rw [List.length_range, sizeLine_eq]; omega)
    (fun x _ => ?_) (PyProof.Rows.ksk_l1 _ _) (PyProof.Rows.ksk_t1 _ _) (fun v i hv hi hh tk2 kp => ?_) fun out cc hh tk2 kp hD hlen eo => ?_))
  · have := hr.un
    have hd : (PyData.tuple [.int (rk x), .int (x : Int)]).depth ≤ 3 := by simp [PyData.depth, PyData.depthAll]
    show X.A.units + 1 + 1 + _ < _
    omega
  · obtain ⟨t0, rfl⟩ := hv
    have hi' : i < m := List.mem_range.mp hi
    obtain ⟨tp, us, hx, hS, hu0⟩ := hrow i hi'
    have kp2 : ∀ b o, s2.heap.get? b = some o → hh.get? b = some o := fun b o e => kp b o (old b o e).1 (old b o e).2
    obtain ⟨w1, ew, rw1⟩ := rv.get hx
    obtain rfl : w1 = Value.ref tp := rw1
    obtain ⟨us', rv', pl', hz'⟩ := I2.tuple (sqT_ext hS eN)
    obtain ⟨w2, ew2, rw2⟩ := rv'.get hu0
    obtain ⟨t3, rfl⟩ := rw2
    have l63 := line63
    have hpL : hh.IsList La its.toArray := by
      obtain ⟨oc, e1, e2⟩ := pl.isList
      exact ⟨oc, kp2 _ _ e1, e2⟩
    have hpC : hh.IsCell co (some (.ref La)) := by
      obtain ⟨oc, e1, e2⟩ := hcell
      exact ⟨oc, kp2 _ _ e1, e2⟩
    exact turn_pair (s := { s2 with heap := hh, toks := tk2 }) (kp2 _ _ hf) ⟨oc, vsc, tc, kp2 _ _ hoc, hdc, hvc⟩ hr.depth (lim2.keeps kp2) L.co L.gen L.kind L.cells L.par L.free (fun u v => hbind _ _ _ _ _ _) hcl hpC hpL ew (by omega) (pl'.keeps kp2) ew2 (by have := rv'.length; omega) hd1 hd2 hd3
  · rw [PySem.W.dataLe_ii] at eo
    have hE2 : Vals (((List.range m).mergeSort fun i j => decide (rk i < rk j ∨ (rk i = rk j ∧ (i : Int) ≤ (j : Int)))).map fun i : Nat => V.int (i : Int)) out := of_each eo
    refine wpAny_pure ⟨_, rfl, .ref h'.objs.size, upd H2 h'.objs.size (.lst _), I3.laid (t' := tk2) (fun b u e => ?_) (Nat.le_refl _) ⟨?_, out, cc, hE2, hD⟩, rfl, q H2 eN T2 _ (I3.hok.fresh (Nat.le_refl _))⟩
    · exact kp b u (Nat.ne_of_lt (Heap.lt_size e)) (Heap.get?_push_of_some _ e)
    · rw [List.length_map, List.length_mergeSort, List.length_range, sizeLine_eq]
      omega
end
end RLam

set_option maxHeartbeats 2000000
namespace RLam
open PySem PySem.Spec PyProof.Rows L2 PySem.Calls
/-! ### max(list, key=lambda n: e), where e may read n and one captured name, and call defs of the module -/
/-- one parameter, the other names captured or of the module -/
structure LamP (sc scope : Scope) (n : Str) : Prop where
  kind : scope.kind = .function
  co : scope.isCoroutine = false
  gen : scope.isGenerator = false
  own : ∀ y ∈ scope.names, y.2 ≠ .cell ∧ (y.2 = .local → y.1 = n)
  par : scope.names.lookup n = some .local
  free : ∀ y ∈ scope.names, y.2 = .free → sc.names.lookup y.1 = some .cell ∨ sc.names.lookup y.1 = some .free
theorem lamP_by {sc scope : Scope} {n : Str} (h : (decide (scope.kind = .function) && (!scope.isCoroutine && (!scope.isGenerator && (decide (scope.names.lookup n = some .local) &&
    scope.names.all fun y => !decide (y.2 = .cell) && ((!decide (y.2 = .local) || decide (y.1 = n)) && (!decide (y.2 = .free) || (decide (sc.names.lookup y.1 = some .cell) || decide (sc.names.lookup y.1 = some .free)))))))) = true) : LamP sc scope n := by
  simp only [Bool.and_eq_true, Bool.or_eq_true, Bool.not_eq_true', decide_eq_true_eq, decide_eq_false_iff_not, List.all_eq_true] at h
  obtain ⟨h1, h2, h3, h4, h5⟩ := h
  exact ⟨h1, h2, h3, fun y hy => ⟨(h5 y hy).1, fun e => (h5 y hy).2.1.resolve_left fun z => z e⟩, h4, fun y hy e => (h5 y hy).2.2.resolve_left fun z => z e⟩
abbrev envP (X : Cx) (scope : Scope) (L f c' : Addr) : Env := PySem.W.envX (X.env.qual ++ "<lambda>") scope L f (.ref c') (cloFrom X.env.cells scope.names [])
/-- the lambda's body, entered at s -/
def cxP (X : Cx) (A : Around) (s : Shared) (H : Hp) (scope : Scope) (f c' : Addr) (n o : Str) (xe : Value → Shared → Prop) : Cx where
  prog := X.prog
  w := X.w
  K := X.K
  mg := X.mg
  base := X.base
  A := A.deeper (envP X scope s.heap.objs.size f c')
  N := [n, o]
  s_0 := s
  H_0 := H
  env := envP X scope s.heap.objs.size f c'
  outer := X.stack
  stack := envP X scope s.heap.objs.size f c' :: X.stack
  ex := []
  fn := fun _ => false
  calm := true
  pn := []
  xe := xe
section
variable {X : Cx} {pins : List (Addr × Obj)} {σ : L2.St} {H : Hp} {s : Shared}
theorem cxP_start {A : Around} {scope : Scope} {f c' : Addr} {n o : Str} {v wv : V} {u : Value} {io : Nat} {h₁ : Heap} {tk : Nat} {xe : Value → Shared → Prop} (I : Inv X pins σ H s) (L : LamP X.env.scope scope n) (hno : o ≠ n) (e0 : Env0 X.prog X.w X.K X.mg X.base A X.stack s H) (hd : A.handled = none)
    (hN : X.N[io]? = some o) (hσ : σ[io]? = some (some wv)) (rv : RelV v u) (hns : h₁.Ns s.heap.objs.size fun y => ([(n, u)] : List (Str × Value)).reverse.lookup y) (kp : ∀ b o, s.heap.get? b = some o → h₁.get? b = some o) :
    Inv (cxP X A s H scope f c' n o xe) [] [some v, some wv] H { s with heap := h₁, toks := tk } := by
  have hfree : ∀ y ∈ scope.names, y.2 = .free → ∃ c, X.env.cells.lookup y.1 = some c := fun y hy e => by
    rcases L.free y hy e with k | k
    · exact I.ok.has _ (.inl k)
    · exact I.ok.has _ (.inr k)
  have cm : ∀ {y c}, (cloFrom X.env.cells scope.names []).lookup y = some c → X.env.cells.lookup y = some c := fun {y c} e => by
    rcases cloFrom_mem (PySem.mem_of_lookup e) with hm | ⟨h1, h2⟩
    · cases hm
    · obtain ⟨c1, hc⟩ := hfree _ h1 rfl
      have hc : X.env.cells.lookup y = some c1 := hc
      have e2 : c = c1 := by
        rw [h2, hc] <;> rfl
      rw [e2]
      exact hc
  have look : ∀ {y}, scope.names.lookup y = some .free → ∃ c, (cloFrom X.env.cells scope.names []).lookup y = some c := fun {y} hl =>
    mem_lookup (cloFrom_has (cells := X.env.cells) (acc := []) (PySem.mem_of_lookup hl))
  have cellK : ∀ {c : Addr} {v : Option Value}, s.heap.IsCell c v → h₁.IsCell c v := fun {c v} ⟨o, ho, hd⟩ => ⟨_, kp _ _ ho, hd⟩
  have noA : ∀ b : Addr, b ∉ (cxP X A s H scope f c' n o xe).ex := fun b z => absurd (show b ∈ ([] : List Addr) from z) (by simp)
  refine ⟨⟨e0.mod, L.kind, rfl, rfl, Nat.le_refl _, fun y z c e1 e2 => I.ok.inj y z c (cm e1) (cm e2), fun y hy => ?_, fun y c z _ => ?_, fun _ => hd, Around.frames_deeper e0.frames, .inr ⟨rfl, rfl⟩, fun b z => absurd z (noA b), e0.bs, e0.bsz, fun b _ _ => noA b,
      fun b z => absurd z (noA b), e0.funs, e0.frf⟩,
    rfl, e0.bare, Un.kept kp, ⟨_, hns, fun i y x e1 e2 e3 => ?_⟩, fun y c e => ?_, e0.hok.fresh (Nat.le_refl _), fun y c e => ?_, fun q hq => absurd (show q ∈ ([] : List (Addr × Obj)) ++ [] from hq) (by simp), e0.hok.kept kp, rfl⟩
  · have hy : scope.names.lookup y = some .cell ∨ scope.names.lookup y = some .free := hy
    rcases hy with hy | hy
    · exact absurd rfl (L.own _ (PySem.mem_of_lookup hy)).1
    · exact look hy
  · have z : false = true := z
    cases z
  · have e1 : ([n, o] : List Str)[i]? = some y := e1
    have e3 : Vis scope y := e3
    match i with
    | 0 =>
      obtain rfl : n = y := Option.some.inj e1
      have e2 : some (some v) = some (some x) := e2
      obtain rfl : v = x := Option.some.inj (Option.some.inj e2)
      refine ⟨u, rv, .inl ⟨L.par, ?_⟩⟩
      show ([(n, u)] : List (Str × Value)).reverse.lookup n = _
      simp [List.lookup]
    | 1 =>
      obtain rfl : o = y := Option.some.inj e1
      have e2 : some (some wv) = some (some x) := e2
      obtain rfl : wv = x := Option.some.inj (Option.some.inj e2)
      rcases e3 with k | k | k
      · exact absurd ((L.own _ (PySem.mem_of_lookup k)).2 rfl) hno
      · exact absurd rfl (L.own _ (PySem.mem_of_lookup k)).1
      · obtain ⟨m, hn, hl⟩ := I.loc
        have hvis : Vis X.env.scope o := (L.free _ (PySem.mem_of_lookup k) rfl).elim (fun k => .inr (.inl k)) (fun k => .inr (.inr k))
        obtain ⟨w', r, q⟩ := hl io o wv hN hσ hvis
        obtain ⟨c2, h2⟩ := look k
        refine ⟨w', r, .inr ⟨.inr k, c2, h2, ?_⟩⟩
        have c1 := cm h2
        rcases q with ⟨k', _⟩ | ⟨_, c3, e', z⟩
        · have k' : X.env.scope.names.lookup o = some .local := k'
          rcases L.free _ (PySem.mem_of_lookup k) rfl with k2 | k2 <;> rw [show X.env.scope.names.lookup o = _ from k2] at k' <;> cases k'
        · rw [c1] at e'
          cases e'
          exact cellK z
    | i + 2 =>
      have : ([n, o] : List Str)[i + 2]? = none := rfl
      rw [this] at e1
      cases e1
  · obtain ⟨w', z⟩ := I.cell y c (cm e)
    exact ⟨w', cellK z⟩
  · obtain ⟨v, o, ho, hd⟩ := I.cell y c (cm e)
    exact I.freeC y c (cm e)
/-- the first of the greatest -/
theorem argBest_gt (rk : Nat → Int) : ∀ k, argBest (fun i j => decide (rk i > rk j)) k ≤ k ∧ ∀ j, j ≤ k → rk j ≤ rk (argBest (fun i j => decide (rk i > rk j)) k) ∧ (j < argBest (fun i j => decide (rk i > rk j)) k → rk j < rk (argBest (fun i j => decide (rk i > rk j)) k))
  | 0 => ⟨Nat.le_refl _, fun j hj => by
    obtain rfl : j = 0 := by omega
    exact ⟨Int.le_refl _, fun z => absurd z (Nat.lt_irrefl 0)⟩⟩
  | k + 1 => by
    obtain ⟨h1, h2⟩ := argBest_gt rk k
    show (if decide (rk (k + 1) > rk _) = true then k + 1 else _) ≤ k + 1 ∧ ∀ j, j ≤ k + 1 → rk j ≤ rk (if decide (rk (k + 1) > rk _) = true then k + 1 else _) ∧ (j < (if decide (rk (k + 1) > rk _) = true then k + 1 else _) → rk j < rk (if decide (rk (k + 1) > rk _) = true then k + 1 else _))
    generalize argBest (fun i j => decide (rk i > rk j)) k = b at h1 h2 ⊢
    by_cases c : rk (k + 1) > rk b
    · rw [if_pos (decide_eq_true c)]
      refine ⟨Nat.le_refl _, fun j hj => ?_⟩
      by_cases e : j = k + 1
      · subst e; exact ⟨Int.le_refl _, fun z => absurd z (Nat.lt_irrefl _)⟩
      · have := (h2 j (by omega)).1
        exact ⟨by omega, fun _ => by omega⟩
    · rw [if_neg (fun z => c (of_decide_eq_true z))]
      refine ⟨by omega, fun j hj => ?_⟩
      by_cases e : j = k + 1
      · subst e; exact ⟨by omega, fun z => by omega⟩
      · exact h2 j (by omega)
/-- what max wants of the list, of the lambda's reading at each place, and of what follows -/
def tMaxLam (T : List (Addr × Str)) (io : Nat) (ta : TA) (tb : TE) : TE := fun σ H Q => ta σ H fun vs H1 => ∃ (p : Addr) (xs : List V) (rk : Nat → Int) (wv : V), vs = [V.ref p] ∧ H1 p = some (.lst xs) ∧ 0 < xs.length ∧ LamX.Tabs T H1 ∧ σ[io]? = some (some wv) ∧
  (∀ H2, LamX.ExtN H1 H2 → ∀ od, ∀ i x, xs[i]? = some x → tb [some x, some wv] (upd H2 p (.frz od (.lst xs))) fun v H3 => v = .int (rk i) ∧ H3 = upd H2 p (.frz od (.lst xs))) ∧
  ∀ H2, LamX.ExtN H1 H2 → LamX.Tabs T H2 → H2 p = some (.lst xs) → ∀ i x, xs[i]? = some x → (∀ j, j < xs.length → rk j ≤ rk i ∧ (j < i → rk j < rk i)) → Q x H2
variable {k : Nat} {T : List (Addr × Str)} {io : Nat} {ta : TA} {tb : TE} {e body : Expr} {n o : Str} {c P : Addr} {params : Arguments} {scope : Scope} {p kpos lpos pos : Pos}
theorem pe_maxLam (hc : X.calm = true) (hg : Gl X "max") (hm : X.mg "max" = none) (ha : PA X [e] ta) (TB : LamX.TabB X.base X.mg c P) (hcode : X.env.code = .ref c) (hmT : (P, X.env.qual ++ "<lambda>") ∈ T) (hu : ∀ p ∈ T, p.1 = P → p.2 = X.env.qual ++ "<lambda>")
    (hr : Room (k + 2) X.A) (L : LamP X.env.scope scope n) (hno : o ≠ n) (hN : X.N[io]? = some o) (hdef : defaultsOf params X.env = ([], []))
    (hbind : ∀ (q : Str) (cl : List (Str × Addr)) (pm ctv u v : Value), bindArgs (PySem.W.kla_fn "<lambda>" q params body scope cl pm u ctv) ⟨[v], []⟩ = pure [(n, v)])
    (hbody : ∀ (A : Around) (s : Shared) (H : Hp) (f c' : Addr) (xe : Value → Shared → Prop), Room k (cxP X A s H scope f c' n o xe).A → PE (cxP X A s H scope f c' n o xe) body tb)
    (he : backTo pos (starEach [e] X.env) = (false, eval e X.env) :: backTo pos (starEach [] X.env) := by rfl) (hpl : (backTo pos (starEach [e] X.env)).any (·.1) = false := by rfl) :
    PE X (.Call (.Name "max" p) [e] [⟨some "key", .Lambda params body scope lpos, kpos⟩] pos) (tMaxLam T io ta tb) := by
  refine ⟨fun pins s σ H Q I h => ?_⟩
  refine wpAny_Call_Name_kw (ld_blt I hg hm (by rfl) ?_)
  refine PyProof.Rows.callWith_kw (thn (ha.run pos pins s σ H _ I h) fun us s1 ⟨vs, H1, I1, r1, q1⟩ => ?_) he hpl (by rfl) (by rfl)
  obtain ⟨pr, xs, rk, wv, rfl, hpr, hpos, hT, hσ, hb, q⟩ := q1
  obtain rfl := Vals.ref1 r1
  have hfree : ∀ y ∈ scope.names, y.2 = .free → ∃ c, X.env.cells.lookup y.1 = some c := fun y hy e => by
    rcases L.free y hy e with k | k
    · exact I1.ok.has _ (.inl k)
    · exact I1.ok.has _ (.inr k)
  show wpAny _ _ (evalAll [do let v ← eval _ X.env; standAt pos; pure v]) _ _ s1
  refine wpAny_evalAll_cons (wpAny_bind (LamX.lam_make2 I1 TB hcode hmT hu hT hdef hfree fun f c' pm ctv H2 s2 I2 eN T2 hf hfn hfr hco => wpAny_bind (wpAny_standAt (wpAny_pure (wpAny_evalAll_nil ?_)))))
  show wpAny _ _ (call (.builtin "max") [.ref pr] [(Str.ofString "key", .ref f)]) _ _ _
  have hp2 := eN _ _ hpr (fun ps z => by cases z)
  have mu : Mut (some (HO.lst xs)) := trivial
  obtain ⟨od, I3⟩ := I2.lock hp2 mu
  have nfz := I2.nofrz hp2 mu
  have hpF : upd H2 pr (.frz od (.lst xs)) pr = some (.frz od (.lst xs)) := upd_same
  have hb := hb H2 eN od
  have hcoF : upd H2 pr (.frz od (.lst xs)) c' = some (LamX.CodeO c' (X.env.qual ++ "<lambda>")) := by
    rw [upd_ne (fun z => by rw [z, hp2] at hco; unfold LamX.CodeO at hco; cases hco)]; exact hco
  have hfF : upd H2 pr (.frz od (.lst xs)) f = none := by
    rw [upd_ne (fun z => by rw [z, hp2] at hfn; cases hfn)]; exact hfn
  have back : upd (upd H2 pr (.frz od (.lst xs))) pr (.lst xs) = H2 := by
    funext b
    by_cases hb : b = pr
    · rw [hb, upd_same, hp2]
    · rw [upd_ne hb, upd_ne hb]
  have eq := q H2 eN T2 hp2
  generalize hHF : upd H2 pr (.frz od (.lst xs)) = HF at I3 hpF hb hcoF hfF back
  obtain ⟨its, rv, pl, hz⟩ := I3.list (a := pr) (xs := xs) (.inl (.inr ⟨od, hpF⟩))
  have hlen : its.toArray.size = xs.length := by rw [List.size_toArray, rv.length]
  refine PySem.call_max_walkK (PySem.W.iter_listW (A := X.A.in1) (I2.ok.hd hc) pl.isList fun s₂ es W st hfp hw hk => ?_)
  have I4 : Inv X pins σ HF s₂ := by rw [es]; exact I3.kept fun b o e => Heap.get?_push_of_some _ e
  have sz4 : s2.heap.objs.size < s₂.heap.objs.size := hfp _ List.mem_cons_self
  have fpI : FpOk X pins HF s2.heap.objs.size := I3.fpOk (Nat.le_refl _) (I3.hok.fresh (Nat.le_refl _))
  have fpS : FpOk X pins HF s₂.heap.objs.size := I4.fpOk (Nat.le_refl _) (I4.hok.fresh (Nat.le_refl _))
  have fpL : ∀ b ∈ [s₂.heap.objs.size, s2.heap.objs.size], FpOk X pins HF b := fun b hb => by
    rcases List.mem_cons.mp hb with e | e
    · rw [e]; exact fpS
    · rw [List.mem_singleton.mp e]; exact fpI
  have hfl : f < s2.heap.objs.size := Heap.lt_size hf
  have noF : ∀ {b : Addr}, FpOk X pins HF b → b ∉ frs X.stack := fun fo hb => by
    rcases List.mem_cons.mp (I4.stkSub _ hb) with e | e
    · exact fo.2.1 e
    · exact fo.2.2.1 e
  have hil : ∀ i, i < its.toArray.size → ∃ x u, xs[i]? = some x ∧ its.toArray[i]? = some u ∧ RelV x u := fun i hi => by
    have hx : i < xs.length := by omega
    obtain ⟨u, e1, e2⟩ := rv.get (List.getElem?_eq_getElem hx)
    exact ⟨_, u, List.getElem?_eq_getElem hx, by rw [List.getElem?_toArray]; exact e1, e2⟩
  refine ⟨_, _, _, _, _, _, _, (fun s' => Inv X pins σ HF s' ∧ s'.heap.get? f = s2.heap.get? f ∧ s'.heap.get? f = some (PySem.W.kla_obj "<lambda>" (X.env.qual ++ "<lambda>") params body scope (cloFrom X.env.cells scope.names []) pm c' ctv)), (fun i kx _ => ∃ t, kx = .int (rk i) t), (fun i j => decide (rk i > rk j)), rfl, W, st, hfp, by omega, ?_, ⟨I4, ?_, hk _ _ hf⟩, fun v s' hP hJ => ?_⟩
  · refine ⟨fun s' s'' ⟨J, j1, j2⟩ m => ?_, fun i kx s' s'' h _ => h, fun i v s' ob Q' E' hi hP hJ hst hS hQ => ?_, fun i j ki kj s' Q' E' _ hi hj hq => ?_⟩
    · have nf : f ∉ [s₂.heap.objs.size, s2.heap.objs.size] := fun hb => by
        rcases List.mem_cons.mp hb with e | e
        · exact Nat.ne_of_lt (Nat.lt_trans hfl sz4) e
        · exact Nat.ne_of_lt hfl (List.mem_singleton.mp e)
      have e2 := m.heap f _ nf j2
      refine ⟨?_, by rw [e2, hf], e2⟩
      have I5 := J.turnedL (h' := s''.heap) (t' := s''.toks) m.heap fpL
      obtain ⟨hp, g, d, tk, os⟩ := s''
      have h1 : g = s'.gens := m.gens
      have h2 : d = s'.drawn := m.drawn
      have h3 : os = s'.os := m.os
      subst h1 h2 h3
      exact I5
    · obtain ⟨J, j1, j2⟩ := hJ
      obtain ⟨x, u, hx, hu', rxu⟩ := hil i hi
      have hP : its.toArray[i]? = some v := hP
      rw [hu'] at hP
      obtain rfl : u = v := Option.some.inj hP
      have hroom : Room (k + 1) X.A.in1 := hr.in1
      have e0 : Env0 X.prog X.w X.K X.mg X.base X.A.in1 X.stack s' HF := J.env0.in1
      obtain ⟨⟨oc, vsc, tc, hoc, hdc, hvc⟩, _, _⟩ := J.hok c' _ hcoF
      refine wpAny_call (PySem.W.kla_callFunE hroom.depth j2 rfl L.co L.gen rfl ⟨c', oc, vsc, tc, rfl, hoc, hdc, hvc⟩ ?_)
      rw [hbind]
      refine wpAny_pure (wpAny_newFunctionEnv (fun y hy => (L.own y hy).1) (fun y hy => ?_) (fun h₁ hns hsb => ⟨J.nolimit.fresh _ hsb, ?_⟩) L.kind)
      · rw [List.mem_singleton] at hy
        rw [hy]
        exact L.par
      have kp : ∀ b o, s'.heap.get? b = some o → h₁.get? b = some o := fun b o e => hsb.extBut b o (Nat.ne_of_lt (Heap.lt_size e)) (Heap.get?_push_of_some _ e)
      refine PySem.W.kla_codeExpr (wpAny_mono ((hbody X.A.in1 s' HF f c' _ (hroom.deeper _)).run [] _ _ HF _ (cxP_start J L hno e0 hroom.hd hN hσ rxu hns kp) (hb i x hx)) (fun kx s'' hq => ?_) fun e s'' hq => hq)
      obtain ⟨w', H', J', rkx, rfl, rfl⟩ := hq
      have un : Un (frs X.stack) [] H' H' s'.heap s''.heap := J'.base
      have kpU : ∀ {b : Addr}, FpOk X pins H' b → ∀ {ob : Obj}, s'.heap.get? b = some ob → s''.heap.get? b = some ob := fun fo ob e => un.keep _ _ e fo.1 (noF fo) (by simp)
      have I6 := J.call (h' := s''.heap) (g' := s''.gens) (d' := s''.drawn) (t' := s''.toks) (ch := []) un J'.hok J'.bare (fun b z => absurd z (by simp))
      have os6 : s''.os = s'.os := J'.os
      have I7 : Inv X pins σ H' s'' := by
        obtain ⟨hp, g, d, tk, os⟩ := s''
        obtain rfl : os = s'.os := os6
        exact I6
      have f6 : s''.heap.get? f = _ := un.keep f _ j2 hfF hfr (by simp)
      have pF : s''.heap.get? pr = some od := (I7.hok pr _ hpF).1
      have pF0 : s'.heap.get? pr = some od := (J.hok pr _ hpF).1
      obtain ⟨⟨oi, a1, a2, a3⟩, ⟨ol, b1, b2⟩⟩ := id hst
      rw [pF0] at b1
      obtain rfl := Option.some.inj b1
      exact hQ kx s'' ⟨I7, by rw [f6, hf], f6⟩ ⟨⟨oi, kpU fpI a1, a2, a3⟩, ⟨_, pF, b2⟩⟩ (kpU fpS hS) (by obtain ⟨t, ht⟩ := rkx; exact ⟨t, ht⟩) fun j k' z => z
    · exact CmpOf.ints_gt (P := fun i v => ∃ t, v = .int (rk i) t) rk (fun i v h => h) i j ki kj _ _ _ hi hj hq
  · rw [hk _ _ hf, hf]
  · obtain ⟨J, _, _⟩ := hJ
    have hP : its.toArray[_]? = some v := hP
    obtain ⟨g1, g2⟩ := argBest_gt rk (its.toArray.size - 1)
    obtain ⟨x, u, hx, hu', rxu⟩ := hil (argBest (fun i j => decide (rk i > rk j)) (its.toArray.size - 1)) (by omega)
    rw [hu'] at hP
    obtain rfl : u = v := Option.some.inj hP
    have I8 := J.unlock hpF nfz
    rw [back] at I8
    exact ⟨x, H2, I8, rxu, eq _ x hx fun j hj => g2 j (by omega)⟩
end
end RLam

namespace Pot
open PySem PySem.Spec PyProof.Rows L2
section
variable {X : Cx} {K : PySem.W.Frag}
/-- len of a set of ints -/
def rLenSet (w : World) : List V → Hp → VK → Prop := fun xs H Q => ∃ (a : Addr) (S : Int → Bool) (n : Nat), xs = [V.ref a] ∧ H a = some (SetO w a S n) ∧ Q (.int n) H
theorem cr_lenSet : CallR X (.builtin "len") (rLenSet X.w) := by
  intro pins s σ H vs us Q I r h
  obtain ⟨a, S, n, rfl, ha, q⟩ := h
  rw [Vals.ref1 r]
  obtain ⟨o, es, ep, t, ho, hex, hd, _, _, _, hb, hf, rfl, _⟩ := setO_get I ha
  exact PySem.call_len_set ho hex hd hf (by unfold scanBound at hb; omega) ⟨.int _, H, I.tok _, ⟨_, rfl⟩, q⟩
theorem kc_lenSet {w : World} (hw : X.w = w := by rfl) : CallR X (.builtin "len") (rLenSet w) := by subst hw; exact cr_lenSet
/-- repr of any data -/
def rReprA (K : PySem.W.Frag) : List V → Hp → VK → Prop := fun xs H Q => ∃ (x : V) (d : PyData), xs = [x] ∧ Dp K H x d ∧ fineAll.fine d ∧ d.depth ≤ 60 ∧ costAll.cost d ≤ 16777216 ∧ Q (.str d.shown) H
theorem cr_reprA (gd : X.A.guards = some []) (hu : X.A.units + 64 < cLine) : CallR X (.builtin "repr") (rReprA X.K) := by
  intro pins s σ H vs us Q I r h
  obtain ⟨x, d, rfl, dp, sh, dep, sz, q⟩ := h
  obtain ⟨u, rfl, rx⟩ := vals1 r
  have sz2 := Nat.le_trans (shown_len d sh) (by rw [sizeLine_eq]; exact sz : costAll.cost d ≤ sizeLine)
  cases x with
  | ref a =>
    cases rx
    obtain ⟨as, rd⟩ := Dp.reads I d (.ref a) (.ref a) dp rfl
    refine repr_of_reads' rd (fine_show d sh) (fun z => ?_) gd (by omega) (fun _ _ e => e) (fun h' u tk k => ⟨.str d.shown, H, I.kept k, ⟨u, rfl⟩, q⟩) sz2
    rw [dp_noDict dp] at z
    cases z
  | int i =>
    cases dp
    obtain ⟨t, rfl⟩ := rx
    exact PySem.P.repr_of_int sh ⟨.str _, H, I.tok _, ⟨_, rfl⟩, q⟩
  | str z =>
    cases dp
    obtain ⟨t, rfl⟩ := rx
    exact PySem.P.repr_of_str ⟨.str _, H, I.tok _, ⟨_, rfl⟩, q⟩ sz2
  | bl b =>
    cases dp
    cases rx
    refine PySem.P.repr_of_bool ⟨.str _, H, I.tok _, ⟨_, rfl⟩, ?_⟩
    exact q
  | non =>
    cases dp
    cases rx
    exact PySem.P.repr_of_none ⟨.str _, H, I.tok _, ⟨_, rfl⟩, q⟩
  | _ => cases dp
theorem kc_reprA (gd : X.A.guards = some []) (hu : X.A.units + 64 < cLine) (h : X.K = K := by rfl) : CallR X (.builtin "repr") (rReprA K) := h ▸ cr_reprA gd hu
end
theorem short_of {α : Type} [DecidableEq α] : ∀ {ns : List α}, ¬ ns.Nodup → ∃ ns' : List α, ns'.length < ns.length ∧ ∀ k ∈ ns, k ∈ ns'
  | [], h => (h List.nodup_nil).elim
  | x :: ns, h => by
    by_cases hx : x ∈ ns
    · exact ⟨ns, by simp, fun k hk => by
        rcases List.mem_cons.mp hk with e | e
        · rw [e]; exact hx
        · exact e⟩
    · obtain ⟨ns', l, s⟩ := short_of (ns := ns) fun hn => h (List.nodup_cons.mpr ⟨hx, hn⟩)
      exact ⟨x :: ns', by simp only [List.length_cons]; omega, fun k hk => by
        rcases List.mem_cons.mp hk with e | e
        · rw [e]; exact List.mem_cons_self
        · exact List.mem_cons_of_mem _ (s k e)⟩
theorem set_count {ks ns : List Int} (hk : ks.Nodup) (h : ∀ k, k ∈ ks ↔ k ∈ ns) : ks.length ≤ ns.length ∧ (ks.length = ns.length ↔ ns.Nodup) := by
  have le := nodup_le hk fun k x => (h k).mp x
  refine ⟨le, fun e => ?_, fun hn => Nat.le_antisymm le (nodup_le hn fun k x => (h k).mpr x)⟩
  by_cases hn : ns.Nodup
  · exact hn
  · obtain ⟨ns', l, s⟩ := short_of hn
    have := nodup_le hk fun k x => s k ((h k).mp x)
    omega
end Pot

namespace Pot
open PySem PySem.Spec PyProof.Rows L2
section
variable {X : Cx} {K : PySem.W.Frag}
theorem ko_inD (hu : X.A.units + 65 < cLine) (h : X.K = K := by rfl) : OpR X (compareOp .In) (rInD K) := h ▸ op_inD hu
theorem ko_notInD (hu : X.A.units + 65 < cLine) (h : X.K = K := by rfl) : OpR X (compareOp .NotIn) (rNotInD K) := h ▸ op_notInD hu
/-- a text thrice -/
def rRep3 : R2 := fun x y H Q => ∃ z : Str, x = .str z ∧ y = .int 3 ∧ z.length ≤ 100000 ∧ ∀ z' : Str, z'.length ≤ 3 * z.length → (∀ c ∈ z'.cps.toList, c ∈ z.cps.toList) → Q (.str z') H
theorem mul3_len (z : Str) : (Txt.mul z 3).length ≤ 3 * z.length ∧ ∀ c ∈ (Txt.mul z 3).cps.toList, c ∈ z.cps.toList := by
  unfold Txt.mul
  rw [if_neg (show ¬ (3 : Int) < 1 by decide)]
  split
  · exact ⟨by omega, fun c h => h⟩
  · constructor
    · show Array.size _ ≤ _
      simp [List.replicate]
      show z.cps.size + (z.cps.size + z.cps.size) ≤ 3 * z.cps.size
      omega
    · intro c h
      simp [List.replicate] at h
      simpa using h
theorem op_rep3 : OpR X (binaryOp .Mult) rRep3 := by
  intro pins sh sg H xv yv v1 u1 Q I r1 r2 h
  obtain ⟨z, rfl, rfl, hz, q⟩ := h
  obtain ⟨tk1, rfl⟩ := r1
  obtain ⟨tk2, rfl⟩ := r2
  have m3 := mul3_len z
  refine SB.mul ⟨by decide, fun _ _ hh => ?_, fun _ _ => ?_⟩ (fun tt kk => ⟨.str (Txt.mul z 3), H, I.tok _, ⟨_, rfl⟩, q _ m3.1 m3.2⟩)
  · have : ((2 : Int) ^ 63 - 1) / 3 = 3074457345618258602 := by decide
    omega
  · have e : (3 : Int).toNat = 3 := rfl
    rw [e]
    show decide _ = false
    refine decide_eq_false ?_
    have := sizeLine_eq
    omega
end
end Pot

namespace Pot
open PySem PySem.Spec PyProof.Rows L2
/-! ### dict of a list of pairs, a text thrice to the letter -/
section
variable {X : Cx} {K : PySem.W.Frag}
def Dct (mg : Str → Option Value) : Prop := mg "dict" = none
def rDictP (K : PySem.W.Frag) : List V → Hp → VK → Prop := fun xs H Q => ∃ (a : Addr) (ps : List Addr) (kvs : List (Key × V)), xs = [.ref a] ∧ SqL K H a (ps.map V.ref) ∧ Paired (fun p kv => SqT K H p [kV kv.1, kv.2]) ps kvs ∧ ∀ p, H p = none → Q (.ref p) (upd H p (.dK (mergeK [] kvs)))
theorem kc_dictP (hc : X.calm = true := by rfl) (h : X.K = K := by rfl) : CallR X (.type "dict") (rDictP K) := by subst h; exact call_dictP hc
def rRepE : R2 := fun x y H Q => ∃ z : Str, x = .str z ∧ y = .int 3 ∧ z.length ≤ 100000 ∧ Q (.str (Txt.mul z 3)) H
theorem op_repE : OpR X (binaryOp .Mult) rRepE := by
  intro pins sh sg H xv yv v1 u1 Q I r1 r2 h
  obtain ⟨z, rfl, rfl, hz, q⟩ := h
  obtain ⟨tk1, rfl⟩ := r1
  obtain ⟨tk2, rfl⟩ := r2
  refine SB.mul ⟨by decide, fun _ _ hh => ?_, fun _ _ => ?_⟩ (fun tt kk => ⟨.str (Txt.mul z 3), H, I.tok _, ⟨_, rfl⟩, q⟩)
  · have : ((2 : Int) ^ 63 - 1) / 3 = 3074457345618258602 := by decide
    omega
  · have e : (3 : Int).toNat = 3 := rfl
    rw [e]
    show decide _ = false
    refine decide_eq_false ?_
    have := sizeLine_eq
    omega
end
/-! ### pairs as keys and values -/
theorem putK_new {kvs : List (Key × V)} {k : Key} {v : V} (h : ∀ p ∈ kvs, p.1 ≠ k) : putK kvs k v = kvs ++ [(k, v)] := by
  unfold putK
  rw [if_neg]
  intro z
  obtain ⟨p, hp, e⟩ := List.any_eq_true.mp z
  exact h p hp (of_decide_eq_true e)
theorem merge_nd : ∀ (more kvs : List (Key × V)), ((kvs ++ more).map (·.1)).Nodup → mergeK kvs more = kvs ++ more
  | [], kvs, _ => by show kvs = kvs ++ []; rw [List.append_nil]
  | p :: more, kvs, nd => by
    show mergeK (putK kvs p.1 p.2) more = kvs ++ p :: more
    rw [putK_new]
    · rw [merge_nd more (kvs ++ [(p.1, p.2)]) (by rw [List.append_assoc]; exact nd), List.append_assoc]; rfl
    · intro q hq e
      rw [List.map_append, List.nodup_append] at nd
      exact nd.2.2 q.1 (List.mem_map.mpr ⟨q, hq, rfl⟩) p.1 (List.mem_map.mpr ⟨p, List.mem_cons_self, rfl⟩) e
end Pot

namespace Pot
open PySem PySem.Spec PyProof.Rows L2
/-! ### calls by names alone -/
section
variable {X : Cx} {CX : CXT} {k : Nat} {f : Addr} {fd : FuncData} {ps ks : List Str} {sp : Sp} {E : XK} {x : Str} {p pos : Pos} {kws : List Keyword} {tk : TA} {g : List Value → List Value → List Value} {gV : List V → List V → List V}
theorem pe_callK0 (F : FnOk X.prog X.w X.K X.mg X.base CX k f fd ps sp) (hr : Room k X.A) (hg : Gl X x) (hm : X.mg x = some (.ref f)) (hk : PySem.W.keepIn X.K (.ref f) = true) (hb : KBinds X.K fd ps ks g gV) (hx : Passes CX X E)
    (hkw : PK X kws tk) (hall : (backToKw pos (keywordEach kws X.env)).all (·.1.isSome) = true := by rfl) (hks : (backToKw pos (keywordEach kws X.env)).filterMap (·.1) = ks := by rfl)
    (hdb : (x == ("__debug__" : Str)) = false := by decide)
    (hpl : ((backTo pos (starEach [] X.env)).any (·.1) || (backToKw pos (keywordEach kws X.env)).any (·.1.isNone)) = false := by rfl) :
    PE X (.Call (.Name x p) [] kws pos) (tCallK sp gV E tNil tk) := by
  refine ⟨fun pins s σ H Q I h => ?_⟩
  refine wpAny_Call_Name_kw (ld_glob I hg hm ?_ hdb)
  refine PySem.W.callWith_KW0 (h₀ := X.base) I.ok.mod.kin hk hall (thn (hkw.run pos pins s σ H _ I h) fun ws s2 ⟨zs, H2, I2, rz, q2⟩ => ⟨I2.kIn, ?_⟩) hpl
  rw [hks]
  exact run_fnk F hr hb hx I2 .nil rz q2
end
def ClK (P : Program) (w : World) (K : PySem.W.Frag) (mg : Str → Option Value) (base : Heap) (k : Nat) (x : Str) (ks : List Str) (gV : List V → List V → List V) (sp : Sp) : Prop :=
  ∃ (f : Addr) (fd : FuncData) (ps : List Str) (g : List Value → List Value → List Value), FnOk P w K mg base CX0 k f fd ps sp ∧ mg x = some (.ref f) ∧ PySem.W.keepIn K (.ref f) = true ∧ KBinds K fd ps ks g gV
theorem pe_ck {X : Cx} {k j : Nat} {x : Str} {ks : List Str} {gV : List V → List V → List V} {sp : Sp} {kws : List Keyword} {t : TA} {p pos : Pos} (c : ClK X.prog X.w X.K X.mg X.base k x ks gV sp) (hr : Room j X.A) (hk : k ≤ j) (hg : Gl X x) (ha : PK X kws t)
    (hall : (backToKw pos (keywordEach kws X.env)).all (·.1.isSome) = true := by rfl) (hks : (backToKw pos (keywordEach kws X.env)).filterMap (·.1) = ks := by rfl) (hdb : (x == ("__debug__" : Str)) = false := by decide)
    (hpl : ((backTo pos (starEach [] X.env)).any (·.1) || (backToKw pos (keywordEach kws X.env)).any (·.1.isNone)) = false := by rfl) : PE X (.Call (.Name x p) [] kws pos) (tCallK sp gV E0 tNil t) := by
  obtain ⟨f, fd, ps, g, G, hm, kp, b⟩ := c
  exact pe_callK0 G (hr.mono hk) hg hm kp b pass0 ha hall hks hdb hpl
/-- three, handed in from the last to the first -/
def rev3 {α : Type} : List α → List α → List α
  | [], [a, b, c] => [c, b, a]
  | _, _ => []
theorem kb_rev3 {K : PySem.W.Frag} {x qual : Str} {st : Stmt} {f : Addr} {fd : FuncData} {k1 k2 k3 : Str} (F : Fun K x qual st f fd)
    (h : ∀ (kV doc pm : Value) (an : Option Addr) (cdv ct a b c : Value), bindArgs (PySem.W.fnOf x qual (defArgs st) (defBody st) (defScope st) .none kV doc pm an cdv ct) ⟨[], [(k3, a), (k2, b), (k1, c)]⟩ = pure [(k1, c), (k2, b), (k3, a)]) : KBinds K fd [k1, k2, k3] [k3, k2, k1] rev3 rev3 := by
  obtain ⟨oc, od, kV, doc, pm, an, cdv, ct, osl, rfl, lk, hcd⟩ := F.ex
  refine ⟨fun s us ws _ hl => ?_, fun {vs us zs ws} r rz => ?_⟩
  · match us, ws, hl with
    | [], [a, b, c], _ => exact .of_eq (h kV doc pm an cdv ct a b c)
    | [], [], hl => cases hl
    | [], [_], hl => cases hl
    | [], [_, _], hl => cases hl
    | [], _ :: _ :: _ :: _ :: _, hl => cases hl
    | _ :: _, _, hl => cases hl
  · cases r with
    | nil =>
      cases rz with
      | nil => exact .nil
      | cons a rz =>
        cases rz with
        | nil => exact .nil
        | cons b rz =>
          cases rz with
          | nil => exact .nil
          | cons c rz =>
            cases rz with
            | nil => exact .cons c (.cons b (.cons a .nil))
            | cons _ _ => exact .nil
    | cons _ _ => exact .nil
/-- four, from the last to the first, of a def with defaults -/
def rev4 {α : Type} : List α → List α → List α
  | [], [a, b, c, d] => [d, c, b, a]
  | _, _ => []
theorem kb_rev4D {K : PySem.W.Frag} {x : Str} {st : Stmt} {dvs : List V} {f : Addr} {fd : FuncData} {k1 k2 k3 k4 : Str} (F : FunV K x st dvs f fd) (hd : dvs ≠ [])
    (h : ∀ (T : Addr) (kV doc pm : Value) (an : Option Addr) (cdv ct a b c d : Value) (its : List Value), its.length = dvs.length → ∃ k, bindArgs (PySem.W.fnOf x x (defArgs st) (defBody st) (defScope st) (.ref T) kV doc pm an cdv ct) ⟨[], [(k4, a), (k3, b), (k2, c), (k1, d)]⟩ = seqItems? (.ref T) >>= k ∧ k (some its.toArray) = pure [(k1, d), (k2, c), (k3, b), (k4, a)]) : KBinds K fd [k1, k2, k3, k4] [k4, k3, k2, k1] rev4 rev4 := by
  obtain ⟨oc, od, dV, kV, doc, pm, an, cdv, ct, osl, rfl, lk, hcd, hD, hK⟩ := F.ex
  refine ⟨fun s us ws X hl => ?_, fun {vs us zs ws} r rz => ?_⟩
  · rcases hD with ⟨e, _⟩ | ⟨_, T, o, its, m, rfl, lT, oT, rT⟩
    · exact absurd e hd
    · match us, ws, hl with
      | [], [a, b, c, d], _ =>
        obtain ⟨k, e1, e2⟩ := h T kV doc pm an cdv ct a b c d its rT.length.symm
        refine BindsTo.of_looks fun M => ?_
        show PySem.W.Looks M s.heap (bindArgs _ ⟨[], [(k4, a), (k3, b), (k2, c), (k1, d)]⟩) _
        rw [e1]
        exact looks_items X lT oT (.of_pure e2)
      | [], [], hl => cases hl
      | [], [_], hl => cases hl
      | [], [_, _], hl => cases hl
      | [], [_, _, _], hl => cases hl
      | [], _ :: _ :: _ :: _ :: _ :: _, hl => cases hl
      | _ :: _, _, hl => cases hl
  · cases r with
    | nil =>
      cases rz with
      | nil => exact .nil
      | cons a rz =>
        cases rz with
        | nil => exact .nil
        | cons b rz =>
          cases rz with
          | nil => exact .nil
          | cons c rz =>
            cases rz with
            | nil => exact .nil
            | cons d rz =>
              cases rz with
              | nil => exact .cons d (.cons c (.cons b (.cons a .nil)))
              | cons _ _ => exact .nil
    | cons _ _ => exact .nil
/-! ### a list or a tuple walked -/
def iAnyS (K : PySem.W.Frag) (tl : TE) : TI := fun σ H R => iList K tl σ H R ∨ iTup K tl σ H R
theorem ki_anyS {X : Cx} {K : PySem.W.Frag} {tg l : Expr} {tl : TE} (hl : PE X l tl) (h : X.K = K := by rfl) : PI X tg l (iAnyS K tl) :=
  ⟨fun pins s σ H R I z => z.elim (fun z => (ki_list hl h).run pins s σ H R I z) (fun z => (ki_tup hl h).run pins s σ H R I z)⟩
end Pot

namespace Pot
open PySem PySem.Spec PyProof.Rows L2
/-! ### calls by places and names of a def with five values, two of them with defaults -/
def mix5 {α : Type} : List α → List α → List α
  | [], [a, b, c, d, e] => [e, c, a, d, b]
  | _, _ => []
def pl32 {α : Type} : List α → List α → List α
  | [a, b, c], [d, e] => [a, b, c, d, e]
  | _, _ => []
def pl31 {α : Type} (x : α) : List α → List α → List α
  | [a, b, c], [d] => [a, b, c, x, d]
  | _, _ => []
section
variable {K : PySem.W.Frag} {x : Str} {st : Stmt} {dvs : List V} {f : Addr} {fd : FuncData} {k1 k2 k3 k4 k5 : Str}
theorem kb_mix5 (F : FunV K x st dvs f fd) (hd : dvs ≠ [])
    (h : ∀ (T : Addr) (kV doc pm : Value) (an : Option Addr) (cdv ct a b c d e : Value) (its : List Value), its.length = dvs.length → ∃ k, bindArgs (PySem.W.fnOf x x (defArgs st) (defBody st) (defScope st) (.ref T) kV doc pm an cdv ct) ⟨[], [(k3, a), (k5, b), (k2, c), (k4, d), (k1, e)]⟩ = seqItems? (.ref T) >>= k ∧ k (some its.toArray) = pure [(k1, e), (k2, c), (k3, a), (k4, d), (k5, b)]) : KBinds K fd [k1, k2, k3, k4, k5] [k3, k5, k2, k4, k1] mix5 mix5 := by
  obtain ⟨oc, od, dV, kV, doc, pm, an, cdv, ct, osl, rfl, lk, hcd, hD, hK⟩ := F.ex
  refine ⟨fun s us ws X hl => ?_, fun {vs us zs ws} r rz => ?_⟩
  · rcases hD with ⟨e, _⟩ | ⟨_, T, o, its, m, rfl, lT, oT, rT⟩
    · exact absurd e hd
    · match us, ws, hl with
      | [], [a, b, c, d, e], _ =>
        obtain ⟨k, e1, e2⟩ := h T kV doc pm an cdv ct a b c d e its rT.length.symm
        refine BindsTo.of_looks fun M => ?_
        show PySem.W.Looks M s.heap (bindArgs _ ⟨[], [(k3, a), (k5, b), (k2, c), (k4, d), (k1, e)]⟩) _
        rw [e1]
        exact looks_items X lT oT (.of_pure e2)
      | [], [], hl => cases hl
      | [], [_], hl => cases hl
      | [], [_, _], hl => cases hl
      | [], [_, _, _], hl => cases hl
      | [], [_, _, _, _], hl => cases hl
      | [], _ :: _ :: _ :: _ :: _ :: _ :: _, hl => cases hl
      | _ :: _, _, hl => cases hl
  · match r, rz with
    | .nil, .cons a (.cons b (.cons c (.cons d (.cons e .nil)))) => exact .cons e (.cons c (.cons a (.cons d (.cons b .nil))))
    | .nil, .nil => exact .nil
    | .nil, .cons _ .nil => exact .nil
    | .nil, .cons _ (.cons _ .nil) => exact .nil
    | .nil, .cons _ (.cons _ (.cons _ .nil)) => exact .nil
    | .nil, .cons _ (.cons _ (.cons _ (.cons _ .nil))) => exact .nil
    | .nil, .cons _ (.cons _ (.cons _ (.cons _ (.cons _ (.cons _ _))))) => exact .nil
    | .cons _ _, _ => exact .nil
theorem kb_pl32 (F : FunV K x st dvs f fd) (hd : dvs ≠ [])
    (h : ∀ (T : Addr) (kV doc pm : Value) (an : Option Addr) (cdv ct a b c d e : Value) (its : List Value), its.length = dvs.length → ∃ k, bindArgs (PySem.W.fnOf x x (defArgs st) (defBody st) (defScope st) (.ref T) kV doc pm an cdv ct) ⟨[a, b, c], [(k4, d), (k5, e)]⟩ = seqItems? (.ref T) >>= k ∧ k (some its.toArray) = pure [(k1, a), (k2, b), (k3, c), (k4, d), (k5, e)]) : KBinds K fd [k1, k2, k3, k4, k5] [k4, k5] pl32 pl32 := by
  obtain ⟨oc, od, dV, kV, doc, pm, an, cdv, ct, osl, rfl, lk, hcd, hD, hK⟩ := F.ex
  refine ⟨fun s us ws X hl => ?_, fun {vs us zs ws} r rz => ?_⟩
  · rcases hD with ⟨e, _⟩ | ⟨_, T, o, its, m, rfl, lT, oT, rT⟩
    · exact absurd e hd
    · match us, ws, hl with
      | [a, b, c], [d, e], _ =>
        obtain ⟨k, e1, e2⟩ := h T kV doc pm an cdv ct a b c d e its rT.length.symm
        refine BindsTo.of_looks fun M => ?_
        show PySem.W.Looks M s.heap (bindArgs _ ⟨[a, b, c], [(k4, d), (k5, e)]⟩) _
        rw [e1]
        exact looks_items X lT oT (.of_pure e2)
  · match r, rz with
    | .cons a (.cons b (.cons c .nil)), .cons d (.cons e .nil) => exact .cons a (.cons b (.cons c (.cons d (.cons e .nil))))
    | .nil, _ => exact .nil
    | .cons _ .nil, _ => exact .nil
    | .cons _ (.cons _ .nil), _ => exact .nil
    | .cons _ (.cons _ (.cons _ (.cons _ _))), _ => exact .nil
    | .cons _ (.cons _ (.cons _ .nil)), .nil => exact .nil
    | .cons _ (.cons _ (.cons _ .nil)), .cons _ .nil => exact .nil
    | .cons _ (.cons _ (.cons _ .nil)), .cons _ (.cons _ (.cons _ _)) => exact .nil
theorem kb_pl31 {d1 d2 : V} (F : FunV K x st [d1, d2] f fd)
    (h : ∀ (T : Addr) (kV doc pm : Value) (an : Option Addr) (cdv ct a b c d e1 e2 : Value), ∃ k, bindArgs (PySem.W.fnOf x x (defArgs st) (defBody st) (defScope st) (.ref T) kV doc pm an cdv ct) ⟨[a, b, c], [(k5, d)]⟩ = seqItems? (.ref T) >>= k ∧ k (some #[e1, e2]) = pure [(k1, a), (k2, b), (k3, c), (k4, e1), (k5, d)]) : ∃ g, KBinds K fd [k1, k2, k3, k4, k5] [k5] g (pl31 d1) := by
  obtain ⟨oc, od, dV, kV, doc, pm, an, cdv, ct, osl, rfl, lk, hcd, hD, hK⟩ := F.ex
  rcases hD with ⟨e, _⟩ | ⟨_, T, o, its, m, rfl, lT, oT, rT⟩
  · cases e
  · match its, rT with
    | [e1, e2], .cons r1 (.cons r2 .nil) =>
      refine ⟨pl31 e1, fun s us ws X hl => ?_, fun {vs us zs ws} r rz => ?_⟩
      · match us, ws, hl with
        | [a, b, c], [d], _ =>
          obtain ⟨k, e3, e4⟩ := h T kV doc pm an cdv ct a b c d e1 e2
          refine BindsTo.of_looks fun M => ?_
          show PySem.W.Looks M s.heap (bindArgs _ ⟨[a, b, c], [(k5, d)]⟩) _
          rw [e3]
          exact looks_items X lT oT (.of_pure e4)
      · match r, rz with
        | .cons a (.cons b (.cons c .nil)), .cons d .nil => exact .cons a (.cons b (.cons c (.cons r1 (.cons d .nil))))
        | .nil, _ => exact .nil
        | .cons _ .nil, _ => exact .nil
        | .cons _ (.cons _ .nil), _ => exact .nil
        | .cons _ (.cons _ (.cons _ (.cons _ _))), _ => exact .nil
        | .cons _ (.cons _ (.cons _ .nil)), .nil => exact .nil
        | .cons _ (.cons _ (.cons _ .nil)), .cons _ (.cons _ _) => exact .nil
end
/-- a call by places and names -/
theorem pe_ckP {X : Cx} {k j : Nat} {x : Str} {ks : List Str} {gV : List V → List V → List V} {sp : Sp} {e : Expr} {es : List Expr} {kws : List Keyword} {t tk : TA} {p pos : Pos} (c : ClK X.prog X.w X.K X.mg X.base k x ks gV sp) (hr : Room j X.A) (hk : k ≤ j) (hg : Gl X x) (ha : PA X (e :: es) t) (hkw : PK X kws tk)
    (hall : (backToKw pos (keywordEach kws X.env)).all (·.1.isSome) = true := by rfl) (hks : (backToKw pos (keywordEach kws X.env)).filterMap (·.1) = ks := by rfl) (hdb : (x == ("__debug__" : Str)) = false := by decide) (he : starEach (e :: es) X.env = (false, eval e X.env) :: starEach es X.env := by rfl)
    (hpl : ((backTo pos (starEach (e :: es) X.env)).any (·.1) || (backToKw pos (keywordEach kws X.env)).any (·.1.isNone)) = false := by rfl) : PE X (.Call (.Name x p) (e :: es) kws pos) (tCallK sp gV E0 t tk) := by
  obtain ⟨f, fd, ps, g, G, hm, kp, b⟩ := c
  exact pe_callK G (hr.mono hk) hg hm kp b pass0 ha hkw hall hks hdb he hpl
def rSortedD : List V → Hp → VK → Prop := fun xs H Q => ∃ (a : Addr) (kvs : List (Key × V)) (ks : List Str), xs = [.ref a] ∧ Rd H a (.dK kvs) ∧ kvs.map (·.1) = ks.map Sum.inr ∧ ks.length < 64 ∧
    ∀ ys p, ys.Perm ks → sortedS ys = true → H p = none → Q (.ref p) (upd H p (.lst (ys.map V.str)))
theorem kc_sortedD {X : Cx} (hc : X.calm = true := by rfl) : CallR X (.builtin "sorted") rSortedD := call_sortedD hc
end Pot

namespace Pot
open PySem PySem.Spec PyProof.Rows L2
open Sem (wp)
/-! ### enumerate of a list or a tuple -/
set_option maxHeartbeats 1000000 in
theorem en_new {v : Value} {ob : Obj} {Ok : Heap → Prop} (B : Begins v ob Ok) :
    Meets (Builtin.«enumerate.__new__» ⟨[.type "enumerate", v], []⟩) (fun _ R s => Ok s.heap ∧ R (.ok (.ret (.ref (s.heap.push ob).objs.size))) { s with heap := (s.heap.push ob).push { cls := .type "enumerate", data := .fields #[.none, .bool false, .ref s.heap.objs.size, rawInt 0, .none, .none] } }) :=
  .of_wp fun prog w A R st hst => by
    obtain ⟨hp, gl, dd, tt, oo⟩ := st; obtain ⟨ok1, fin⟩ := hst; have isub := sub_enumerate
    have go : ∀ {A1 : Around} {E1 : Value → Shared → Prop} {Q1 : Value → Shared → Prop}, Q1 (.ref hp.objs.size) ⟨hp.push ob, gl, dd, tt, oo⟩ → wpAny (model prog w) A1 (pyIter v) Q1 E1 ⟨hp, gl, dd, tt, oo⟩ := fun z => B.iter prog w _ _ ⟨hp, gl, dd, tt, oo⟩ _ ok1 z
    wp_walk using go
    refine wpAny_stack_any fun stk => wpAny_pure ?_
    split
    · rename_i cc _ _ _ _ _; cases (cc == Value.type "enumerate") <;> (wp_walk using go; exact ⟨_, rfl, fin⟩)
    · wp_walk using go; exact ⟨_, rfl, fin⟩
/-- some untracked cells written, nothing new -/
theorem inv_ch {X : Cx} {pins : List (Addr × Obj)} {σ : L2.St} {H : Hp} {s : Shared} {h2 : Heap} {tk : Nat} {ch : List Addr} (I : Inv X pins σ H s) (kp : ∀ b o, b ∉ ch → s.heap.get? b = some o → h2.get? b = some o) (fo : ∀ b ∈ ch, FpOk X pins H b) :
    Inv X pins σ H { s with heap := h2, toks := tk } := by
  have out : ∀ c u, H c = some u → c ∉ ch := fun c u e z => by have := (fo c z).1; rw [this] at e; cases e
  refine I.step (g' := s.gens) (d' := s.drawn) (ch := ch) (fun c hc => let ⟨_, a2, _, a4, a5, a6⟩ := fo c hc; ⟨a4, a2, a5, a6⟩) (fun c o _ _ n e _ => kp c o n e) (fun c o _ _ n e _ => ⟨o.slots, kp c o n e⟩) (fun _ _ _ _ z => z) (fun c o n e => ⟨o, kp c o n e⟩) (fun _ _ z => z) (fun _ _ _ z => z) (fun c ps e => ⟨#[], by rw [e]; simp⟩) (fun mm hm => ?_) (fun c u e => ?_) I.bare
  · obtain ⟨o, e1, e2, ho, rest⟩ := hm; exact ⟨o, e1, e2, kp _ o (fun z => (fo _ z).2.1 rfl) ho, rest⟩
  · refine (I.hok c u e).stay (fun c2 v hc q => kp c2 v ?_ q) (fun _ z => z) fun _ _ z => z
    rcases hc with z | z
    · rw [z]; exact out c u e
    · exact out c2 _ z
def ItT (K : PySem.W.Frag) (a : Addr) : It :=
  ⟨fun i H => ∃ (xs : List V) (x : V), SqT K H a xs ∧ xs[i]? = some x, fun i H v H' => ∃ T x, v = .ref T ∧ H T = none ∧ H' = upd H T (.tup [.int (i : Nat), x]) ∧ ∀ xs, SqT K H a xs → xs[i]? = some x, fun i H => ∃ xs : List V, SqT K H a xs ∧ xs.length ≤ i⟩
/-- an iterator of a tuple that has come to its end -/
theorem drawsEnd {prog : Program} {w : World} {A : Around} (hh : A.handled = none) (it t : Addr) (items : Array Value) (i : Nat) (hi : items[i]? = none) :
    Draws prog w A it [it, t] i (fun _ _ => False) (fun j h => j = i ∧ h.IsTupleIter it t j ∧ h.IsTuple t items) where
  live := fun _ _ st => let ⟨o, ho, _⟩ := st.2.1; ⟨o, ho⟩
  frame := fun _ _ _ st hk => ⟨st.1, st.2.1.at fun o e => hk it (by simp) o e, st.2.2.at fun o e => hk t (by simp) o e⟩
  item := fun j _ _ _ hj st _ => absurd st.1 (Nat.ne_of_lt hj)
  done := fun s Q E st hE => wpAny_nextOf_tuple_end hh st.2.1 st.2.2 hi hE
theorem turn_enT {P : Program} {w : World} {K : PySem.W.Frag} {elts : List Expr} {kk : Nat} {tpos : Pos} (a e it : Addr) (ne1 : e ≠ it) :
    Turn P w K (.Tuple elts kk tpos) (ItT K a) [e, it] e (fun i h => (∃ old, IsEnum h e it (0 + ((i : Nat) : Int)) old) ∧ h.IsTupleIter it a i) where
  mem := by simp
  obj := fun i h st b hb => by
    obtain ⟨⟨old, he⟩, ⟨o, ho, hc, hd⟩⟩ := st
    rcases List.mem_cons.mp hb with z | z
    · rw [z]; exact ⟨_, he, fun v q => nomatch q⟩
    · rw [List.mem_singleton.mp z]; exact ⟨o, ho, fun v q => by rw [hd] at q; cases q⟩
  keep := fun i h h' st k => let ⟨⟨old, he⟩, hi⟩ := st; ⟨⟨old, k e (by simp) _ he⟩, hi.at fun o q => k it (by simp) o q⟩
  item := by
    intro X q1 q2 q3 hc i pins s σ H E I hf st hg; subst q1 q2 q3
    obtain ⟨⟨old, he⟩, hit⟩ := st
    obtain ⟨xs, x, hq, hx⟩ := hg
    obtain ⟨its, vals_, p, _⟩ := I.tuple hq
    obtain ⟨u, hu, ru⟩ := vals_.get hx
    have at_ : its.toArray[i]? = some u := by simpa using hu
    have hlt : i < its.toArray.size := (Array.getElem?_eq_some_iff.mp at_).1
    have nt : ∀ b ∈ [e, it], a ≠ b := fun b hb z => by
      obtain ⟨o, ho, cl, _⟩ := p
      rcases List.mem_cons.mp hb with y | y
      · rw [z, y] at ho
        rw [show s.heap.get? e = _ from he] at ho; cases ho; injection cl with cl; exact absurd cl (by decide)
      · rw [z, List.mem_singleton.mp y] at ho
        obtain ⟨o2, ho2, cl2, _⟩ := hit
        rw [ho2] at ho; cases ho
        rw [cl2] at cl; injection cl with cl; exact absurd cl (by decide)
    have G := GoesN.enumFrom (elts := elts) (x1 := kk) (pos := tpos) 0 (Draws.tuple (prog := X.prog) (w := X.w) (A := X.A.in1) (I.ok.hd hc) it a (nt it (by simp)) its.toArray) e ne1 (by simp [ne1, (nt e (by simp)).symm]) (by simp)
    refine G.goes i s _ _ hlt ⟨⟨old, he⟩, hit, p⟩ fun v h2 tk hY st2 hk _ => ?_
    obtain ⟨T, t, u2, rfl, hn, hu2, hT⟩ := hY
    have eu : u2 = u := Option.some.inj (hu2.symm.trans at_)
    subst eu
    rw [Int.zero_add] at hT
    have new : ObjOk X.prog X.w (upd H T (.tup [.int (i : Nat), x])) h2 T (.tup [.int (i : Nat), x]) := ⟨by show 2 ≤ sizeLine; decide, [.int i t, u2], .cons ⟨_, rfl⟩ (.cons ru .nil), hT⟩
    have I1 : Inv X pins σ (upd H T (.tup [.int (i : Nat), x])) { s with heap := h2, toks := tk } := I.turnedNew (ch := [e, it]) (fun b ob hb q => hk b ob hb q) hf hn new
    refine ⟨.ref T, _, I1, rfl, ⟨T, x, rfl, I.hok.fresh hn, rfl, fun ys hy => by rw [I.tuple_inj hy hq]; exact hx⟩, ⟨st2.1, st2.2.1⟩, fun b hb => ?_⟩
    have hb0 := (hf b hb).1
    have hbT : b ≠ T := by
      rcases List.mem_cons.mp hb with y | y
      · rw [y]; exact Nat.ne_of_lt (Nat.lt_of_lt_of_le (Heap.lt_size he) hn)
      · rw [List.mem_singleton.mp y]
        obtain ⟨o2, ho2, _⟩ := hit
        exact Nat.ne_of_lt (Nat.lt_of_lt_of_le (Heap.lt_size ho2) hn)
    rw [upd_ne hbT]; exact hb0
  done := by
    intro X q1 q2 q3 hc i pins s σ H E I hf st hg; subst q1 q2 q3
    obtain ⟨⟨old, he⟩, hit⟩ := st
    obtain ⟨xs, hq, hx⟩ := hg
    obtain ⟨its, vals_, p, _⟩ := I.tuple hq
    have hl := vals_.length
    have nt : ∀ b ∈ [e, it], a ≠ b := fun b hb z => by
      obtain ⟨o, ho, cl, _⟩ := p
      rcases List.mem_cons.mp hb with y | y
      · rw [z, y] at ho
        rw [show s.heap.get? e = _ from he] at ho; cases ho; injection cl with cl; exact absurd cl (by decide)
      · rw [z, List.mem_singleton.mp y] at ho
        obtain ⟨o2, ho2, cl2, _⟩ := hit
        rw [ho2] at ho; cases ho
        rw [cl2] at cl; injection cl with cl; exact absurd cl (by decide)
    have G := GoesN.enumFrom (elts := elts) (x1 := kk) (pos := tpos) 0 (drawsEnd (prog := X.prog) (w := X.w) (A := X.A.in1) (I.ok.hd hc) it a its.toArray i (by simp; omega)) e ne1 (by simp [ne1, (nt e (by simp)).symm]) (by simp)
    exact G.stops s _ _ ⟨⟨old, he⟩, rfl, hit, p⟩ fun h2 tk hk _ => inv_ch I hk hf
  self := fun _ _ _ _ _ st fin => let ⟨⟨_, he⟩, _⟩ := st; wpAny_pyIter_enum he fin
/-- enumerate(v), v a list or a tuple -/
def iEnA (K : PySem.W.Frag) (ta : TA) : TI := fun σ H R => ta σ H fun vs H1 => ∃ a xs, vs = [.ref a] ∧ ((SqL K H1 a xs ∧ R (Ite K a) H1) ∨ (SqT K H1 a xs ∧ R (ItT K a) H1))
theorem pi_enA {X : Cx} {e : Expr} {ta : TA} {p pos tpos : Pos} {elts : List Expr} {kk : Nat} (hg : Gl X "enumerate") (hm : X.mg "enumerate" = none) (ha : PA X [e] ta) (hs : starEach [e] X.env = [(false, eval e X.env)] := by rfl) :
    PI X (.Tuple elts kk tpos) (.Call (.Name "enumerate" p) [e] [] pos) (iEnA X.K ta) := by
  refine ⟨fun pins s σ H R I hi => ?_⟩
  refine Call_ (ld_blt I hg hm boot_enumerate (PyProof.Rows.callWith_type1 (thn (ha.run pos pins s σ H _ I hi) fun us s1 ⟨vs, H1, I1, r1, q1⟩ => ?_) hs rfl))
  obtain ⟨a, xs, ex, q⟩ := q1
  subst ex
  cases r1 with
  | cons r rr =>
    cases rr; cases r
    rcases q with ⟨hq, q⟩ | ⟨hq, q⟩
    · obtain ⟨its, rv, p2, hz⟩ := I1.list hq
      refine call_enumerate_list p2.isList fun h2 he hit hsz hk => wpAny_pyIter_enum he ?_
      refine ⟨s1.heap.objs.size + 1, [s1.heap.objs.size + 1, s1.heap.objs.size], _, _, H1, rfl, I1.kept (t' := s1.toks) hk, turn_enum a (s1.heap.objs.size + 1) s1.heap.objs.size, ⟨⟨.none, he⟩, hit, Nat.succ_ne_self _⟩, fun b hb => ?_, q⟩
      have hge : s1.heap.objs.size ≤ b := by
        rcases List.mem_cons.mp hb with z | z
        · rw [z]; exact Nat.le_add_right _ _
        · rw [List.mem_singleton.mp z]; exact Nat.le_refl _
      exact I1.fpOk hge (I1.hok.fresh hge)
    · obtain ⟨its, rv, p2, hz⟩ := I1.tuple hq
      refine callType_new F.called_enumerate (by decide) (F.typeCall_enumerate_1 _) (F.newCall_enumerate_1 _) (fun obj => F.args_object_init_2 obj _) F.entry_enumerate_new (en_new (begins_tuple a its.toArray)) ⟨p2, ?_⟩
      have sz : (s1.heap.push { cls := .type "tuple_iterator", data := .fields #[.ref a, .int 0 0] }).objs.size = s1.heap.objs.size + 1 := Heap.size_push ..
      show _ ∧ _
      rw [sz]
      have he : IsEnum ((s1.heap.push { cls := .type "tuple_iterator", data := .fields #[.ref a, .int 0 0] }).push { cls := .type "enumerate", data := .fields #[.none, .bool false, .ref s1.heap.objs.size, rawInt 0, .none, .none] }) (s1.heap.objs.size + 1) s1.heap.objs.size (0 + ((0 : Nat) : Int)) .none := by
        have g := Heap.get?_push_size (s1.heap.push { cls := .type "tuple_iterator", data := .fields #[.ref a, .int 0 0] }) (o := { cls := .type "enumerate", data := .fields #[.none, .bool false, .ref s1.heap.objs.size, rawInt 0, .none, .none] }) rfl
        rw [sz] at g; exact g
      refine ⟨⟨_, he, rfl⟩, wpAny_pyIter_enum he ⟨s1.heap.objs.size + 1, [s1.heap.objs.size + 1, s1.heap.objs.size], _, _, H1, rfl, I1.kept (t' := s1.toks) (fun b o z => Heap.get?_push_of_some _ (Heap.get?_push_of_some _ z)), turn_enT a (s1.heap.objs.size + 1) s1.heap.objs.size (Nat.succ_ne_self _), ⟨⟨.none, he⟩, ⟨_, Heap.get?_push_of_some _ (Heap.get?_push_size _ rfl), rfl, rfl⟩⟩, fun b hb => ?_, q⟩⟩
      have hge : s1.heap.objs.size ≤ b := by
        rcases List.mem_cons.mp hb with z | z
        · rw [z]; exact Nat.le_add_right _ _
        · rw [List.mem_singleton.mp z]; exact Nat.le_refl _
      exact I1.fpOk hge (I1.hok.fresh hge)
theorem walk_enT {K : PySem.W.Frag} {a : Addr} {xs : List V} : Walk (ItT K a) xs.length (fun H => SqT K H a xs) (YPair (fun i => some (.int (i : Nat))) (fun i => xs[i]?)) := by
  refine ⟨fun i _ hi hs => ⟨xs, xs[i], hs, by simp [hi]⟩, fun _ hs => ⟨xs, hs, Nat.le_refl _⟩, fun i H v H2 _ hs y => ?_⟩
  obtain ⟨T, x, e1, e2, e3, e4⟩ := y
  exact ⟨T, .int (i : Nat), x, e1, e2, e3, rfl, e4 xs hs⟩
theorem ko_catA {X : Cx} {K : PySem.W.Frag} (h : X.K = K := by rfl) : OpR X (binaryOp .Add) (rCatA K) := h ▸ op_catA
theorem ki_enA {X : Cx} {K : PySem.W.Frag} {e : Expr} {ta : TA} {p pos tpos : Pos} {elts : List Expr} {kk : Nat} (hg : Gl X "enumerate") (hm : X.mg "enumerate" = none) (ha : PA X [e] ta) (hs : starEach [e] X.env = [(false, eval e X.env)] := by rfl) (h : X.K = K := by rfl)
    : PI X (.Tuple elts kk tpos) (.Call (.Name "enumerate" p) [e] [] pos) (iEnA K ta) := h ▸ pi_enA hg hm ha hs
end Pot

namespace Pot
open PySem PySem.Spec PyProof.Rows L2
open Sem (wp)
/-! ### zip of three lists of one length -/
def It3 (K : PySem.W.Frag) (a b c : Addr) : It :=
  ⟨fun i H => ∃ (xs ys zs : List V) (x y z : V), SqL K H a xs ∧ SqL K H b ys ∧ SqL K H c zs ∧ xs[i]? = some x ∧ ys[i]? = some y ∧ zs[i]? = some z,
   fun i H v H2 => ∃ T x y z, v = .ref T ∧ H T = none ∧ H2 = upd H T (.tup [x, y, z]) ∧ (∀ xs, SqL K H a xs → xs[i]? = some x) ∧ (∀ ys, SqL K H b ys → ys[i]? = some y) ∧ ∀ zs, SqL K H c zs → zs[i]? = some z,
   fun i H => ∃ xs ys zs : List V, SqL K H a xs ∧ SqL K H b ys ∧ SqL K H c zs ∧ xs.length ≤ i ∧ ys.length ≤ i ∧ zs.length ≤ i⟩
/-- an iterator of a list that has come to its end -/
theorem drawsEndL {prog : Program} {w : World} {A : Around} (hh : A.handled = none) (it t : Addr) (items : Array Value) (i : Nat) (hi : items[i]? = none) :
    Draws prog w A it [it, t] i (fun _ _ => False) (fun j h => j = i ∧ h.IsListIter it t j ∧ h.IsList t items) where
  live := fun _ _ st => let ⟨o, ho, _⟩ := st.2.1; ⟨o, ho⟩
  frame := fun _ _ _ st hk => ⟨st.1, st.2.1.at fun o e => hk it (by simp) o e, st.2.2.at fun o e => hk t (by simp) o e⟩
  item := fun j _ _ _ hj st _ => absurd st.1 (Nat.ne_of_lt hj)
  done := fun s Q E st hE => wpAny_nextOf_list_end hh st.2.1 st.2.2 hi hE
theorem turn_z3 {P : Program} {w : World} {K : PySem.W.Frag} {elts : List Expr} {kk : Nat} {tpos : Pos} {a b c z TI TO i1 i2 i3 : Addr} (D : ZipSep3 z TI TO i1 i2 i3 [i1, a] [i2, b] [i3, c]) (n1 : a ≠ i1) (n2 : b ≠ i2) (n3 : c ≠ i3) :
    Turn P w K (.Tuple elts kk tpos) (It3 K a b c) [z, TI, TO, i1, i2, i3] z (fun i h => IsZip h z TI TO .none ∧ IsTupOf3 h TI (.ref i1) (.ref i2) (.ref i3) ∧ (∃ x y u, IsTupOf3 h TO x y u) ∧ h.IsListIter i1 a i ∧ h.IsListIter i2 b i ∧ h.IsListIter i3 c i) where
  mem := by simp
  obj := fun i h st m hm => by
    obtain ⟨hz, hTI, ⟨x, y, u, hTO⟩, ⟨o1, e1, _, d1⟩, ⟨o2, e2, _, d2⟩, ⟨o3, e3, _, d3⟩⟩ := st
    simp only [List.mem_cons, List.not_mem_nil, or_false] at hm
    rcases hm with e | e | e | e | e | e
    · subst e; exact ⟨_, hz, fun v q => nomatch q⟩
    · subst e; exact ⟨_, hTI, fun v q => nomatch q⟩
    · subst e; exact ⟨_, hTO, fun v q => nomatch q⟩
    · subst e; exact ⟨o1, e1, fun v q => by rw [d1] at q; cases q⟩
    · subst e; exact ⟨o2, e2, fun v q => by rw [d2] at q; cases q⟩
    · subst e; exact ⟨o3, e3, fun v q => by rw [d3] at q; cases q⟩
  keep := fun i h h2 st k => by
    obtain ⟨hz, hTI, ⟨x, y, u, hTO⟩, g1, g2, g3⟩ := st
    exact ⟨k z (by simp) _ hz, k TI (by simp) _ hTI, ⟨x, y, u, k TO (by simp) _ hTO⟩, g1.at fun o q => k i1 (by simp) o q, g2.at fun o q => k i2 (by simp) o q, g3.at fun o q => k i3 (by simp) o q⟩
  item := by
    intro X q1 q2 q3 hc i pins s σ H E I hf st hg; subst q1 q2 q3
    obtain ⟨hz, hTI, ⟨x0, y0, u0, hTO⟩, g1, g2, g3⟩ := st
    obtain ⟨xs, ys, us, x, y, u, hqa, hqb, hqc, hx, hy, hu⟩ := hg
    obtain ⟨its1, vs1, p1, _⟩ := I.list hqa
    obtain ⟨its2, vs2, p2, _⟩ := I.list hqb
    obtain ⟨its3, vs3, p3, _⟩ := I.list hqc
    obtain ⟨w1, hw1, r1⟩ := vs1.get hx
    obtain ⟨w2, hw2, r2⟩ := vs2.get hy
    obtain ⟨w3, hw3, r3⟩ := vs3.get hu
    have at1 : its1.toArray[i]? = some w1 := by simpa using hw1
    have at2 : its2.toArray[i]? = some w2 := by simpa using hw2
    have at3 : its3.toArray[i]? = some w3 := by simpa using hw3
    have l1 : i < its1.toArray.size := (Array.getElem?_eq_some_iff.mp at1).1
    have l2 : i < its2.toArray.size := (Array.getElem?_eq_some_iff.mp at2).1
    have l3 : i < its3.toArray.size := (Array.getElem?_eq_some_iff.mp at3).1
    have hh := I.ok.hd hc
    have G := GoesN.zip3 (elts := elts) (x1 := kk) (pos := tpos) D (Draws.list (prog := X.prog) (w := X.w) (A := X.A.in1) hh i1 a n1 its1.toArray) (Draws.list (prog := X.prog) (w := X.w) (A := X.A.in1) hh i2 b n2 its2.toArray) (Draws.list (prog := X.prog) (w := X.w) (A := X.A.in1) hh i3 c n3 its3.toArray)
    refine G.goes i s _ _ (by omega) ⟨hz, hTI, ⟨x0, y0, u0, hTO⟩, ⟨g1, p1.isList⟩, ⟨g2, p2.isList⟩, ⟨g3, p3.isList⟩⟩ fun v h2 tk hY st2 hk _ => ?_
    obtain ⟨T, t1, t2, t3, rfl, hn, e1, e2, e3, hT⟩ := hY
    cases Option.some.inj (e1.symm.trans at1)
    cases Option.some.inj (e2.symm.trans at2)
    cases Option.some.inj (e3.symm.trans at3)
    have new : ObjOk X.prog X.w (upd H T (.tup [x, y, u])) h2 T (.tup [x, y, u]) := ⟨by show 3 ≤ sizeLine; decide, [w1, w2, w3], .cons r1 (.cons r2 (.cons r3 .nil)), hT⟩
    have I1 : Inv X pins σ (upd H T (.tup [x, y, u])) { s with heap := h2, toks := tk } := I.turnedNew (ch := [z, TI, TO, i1, i2, i3]) (fun m ob hm q => hk m ob (fun e => hm (by simp only [List.mem_cons, List.not_mem_nil, or_false] at e ⊢; rcases e with e | e | e | e | e <;> simp [e])) q) hf hn new
    refine ⟨.ref T, _, I1, rfl, ⟨T, x, y, u, rfl, I.hok.fresh hn, rfl, fun l hl => by rw [I.list_inj hl hqa]; exact hx, fun l hl => by rw [I.list_inj hl hqb]; exact hy, fun l hl => by rw [I.list_inj hl hqc]; exact hu⟩, ⟨st2.1, st2.2.1, st2.2.2.1, st2.2.2.2.1.1, st2.2.2.2.2.1.1, st2.2.2.2.2.2.1⟩, fun m hm => ?_⟩
    have hm0 := (hf m hm).1
    have live : ∃ o, s.heap.get? m = some o := by
      obtain ⟨o1, f1, _⟩ := g1
      obtain ⟨o2, f2, _⟩ := g2
      obtain ⟨o3, f3, _⟩ := g3
      simp only [List.mem_cons, List.not_mem_nil, or_false] at hm
      rcases hm with e | e | e | e | e | e
      · subst e; exact ⟨_, hz⟩
      · subst e; exact ⟨_, hTI⟩
      · subst e; exact ⟨_, hTO⟩
      · subst e; exact ⟨_, f1⟩
      · subst e; exact ⟨_, f2⟩
      · subst e; exact ⟨_, f3⟩
    obtain ⟨o, ho⟩ := live
    rw [upd_ne (Nat.ne_of_lt (Nat.lt_of_lt_of_le (Heap.lt_size ho) hn))]; exact hm0
  done := by
    intro X q1 q2 q3 hc i pins s σ H E I hf st hg; subst q1 q2 q3
    obtain ⟨hz, hTI, ⟨x0, y0, u0, hTO⟩, g1, g2, g3⟩ := st
    obtain ⟨xs, ys, us, hqa, hqb, hqc, hx, hy, hu⟩ := hg
    obtain ⟨its1, vs1, p1, _⟩ := I.list hqa
    obtain ⟨its2, vs2, p2, _⟩ := I.list hqb
    obtain ⟨its3, vs3, p3, _⟩ := I.list hqc
    have m1 := vs1.length
    have m2 := vs2.length
    have m3 := vs3.length
    have hh := I.ok.hd hc
    have G := GoesN.zip3 (elts := elts) (x1 := kk) (pos := tpos) D (drawsEndL (prog := X.prog) (w := X.w) (A := X.A.in1) hh i1 a its1.toArray i (by simp; omega)) (drawsEndL (prog := X.prog) (w := X.w) (A := X.A.in1) hh i2 b its2.toArray i (by simp; omega)) (drawsEndL (prog := X.prog) (w := X.w) (A := X.A.in1) hh i3 c its3.toArray i (by simp; omega))
    rw [Nat.min_self, Nat.min_self] at G
    exact G.stops s _ _ ⟨hz, hTI, ⟨x0, y0, u0, hTO⟩, ⟨rfl, g1, p1.isList⟩, ⟨rfl, g2, p2.isList⟩, ⟨rfl, g3, p3.isList⟩⟩ fun h2 tk hk _ => inv_ch (ch := [z, TI, TO, i1, i2, i3]) I (fun m o hm q => hk m o (fun e => hm (by simp only [List.mem_cons, List.not_mem_nil, or_false] at e ⊢; rcases e with e | e | e | e | e <;> simp [e])) q) hf
  self := fun _ _ _ _ _ st fin => wpAny_pyIter_zip st.1 fin
def iZip3 (K : PySem.W.Frag) (ta : TA) : TI := fun σ H R => ta σ H fun vs H1 => ∃ a b c xs ys zs, vs = [.ref a, .ref b, .ref c] ∧ SqL K H1 a xs ∧ SqL K H1 b ys ∧ SqL K H1 c zs ∧ R (It3 K a b c) H1
theorem pi_zip3 {X : Cx} {e e2 e3 : Expr} {ta : TA} {p pos tpos : Pos} {elts : List Expr} {kk : Nat} (hg : Gl X "zip") (hm : X.mg "zip" = none) (ha : PA X [e, e2, e3] ta)
    (hs : starEach [e, e2, e3] X.env = (false, eval e X.env) :: starEach [e2, e3] X.env := by rfl) (hpl : (backTo pos (starEach [e2, e3] X.env)).any (·.1) = false := by rfl) :
    PI X (.Tuple elts kk tpos) (.Call (.Name "zip" p) [e, e2, e3] [] pos) (iZip3 X.K ta) := by
  refine ⟨fun pins s σ H R I hi => ?_⟩
  refine Call_ (ld_blt I hg hm PyProof.Rows.boot_zip (PyProof.Rows.callWith_type1 (thn (ha.run pos pins s σ H _ I hi) fun us s1 ⟨vs, H1, I1, r1, q1⟩ => ?_) hs hpl))
  obtain ⟨a, b, c, xs, ys, zs, ex, qa, qb, qc, q⟩ := q1
  subst ex
  cases r1 with
  | cons ra rr =>
    cases rr with
    | cons rb rr =>
      cases rr with
      | cons rc rr =>
        cases rr; cases ra; cases rb; cases rc
        obtain ⟨its1, _, p1, _⟩ := I1.list qa
        obtain ⟨its2, _, p2, _⟩ := I1.list qb
        obtain ⟨its3, _, p3, _⟩ := I1.list qc
        refine zip_begins3 (begins_list a its1.toArray) (begins_list b its2.toArray) (begins_list c its3.toArray) p1.isList p2.isList p3.isList fun h2 hz hTI hTO f1 f2 f3 hsz hk => wpAny_pyIter_zip hz ?_
        have below : ∀ {l : Addr} {its : List Value} {n : Nat}, s1.heap.get? l = some { cls := .type "list", data := .seq its.toArray n } → ∀ m ∈ [l], m < s1.heap.objs.size := fun h m hm => by rw [List.mem_singleton.mp hm]; exact Heap.lt_size h
        refine ⟨s1.heap.objs.size + 5, [s1.heap.objs.size + 5, s1.heap.objs.size + 3, s1.heap.objs.size + 4, s1.heap.objs.size, s1.heap.objs.size + 1, s1.heap.objs.size + 2], _, _, H1, rfl, I1.kept (t' := s1.toks) hk, turn_z3 (zip_sep3 (N := s1.heap.objs.size) (fp1 := [a]) (fp2 := [b]) (fp3 := [c]) ?_ ?_ ?_) ?_ ?_ ?_, ⟨hz, hTI, ⟨_, _, _, hTO⟩, ⟨_, f1, rfl, rfl⟩, ⟨_, f2, rfl, rfl⟩, ⟨_, f3, rfl, rfl⟩⟩, fun m hm => ?_, q⟩
        · exact fun m hm => by rw [List.mem_singleton.mp hm]; exact p1.lt
        · exact fun m hm => by rw [List.mem_singleton.mp hm]; exact p2.lt
        · exact fun m hm => by rw [List.mem_singleton.mp hm]; exact p3.lt
        · exact Nat.ne_of_lt p1.lt
        · exact Nat.ne_of_lt (Nat.lt_of_lt_of_le p2.lt (Nat.le_add_right _ _))
        · exact Nat.ne_of_lt (Nat.lt_of_lt_of_le p3.lt (Nat.le_add_right _ _))
        · have hge : s1.heap.objs.size ≤ m := by
            simp only [List.mem_cons, List.not_mem_nil, or_false] at hm
            rcases hm with e | e | e | e | e | e <;> (rw [e]; first | exact Nat.le_refl _ | exact Nat.le_add_right _ _)
          exact I1.fpOk hge (I1.hok.fresh hge)
theorem ki_zip3 {X : Cx} {K : PySem.W.Frag} {e e2 e3 : Expr} {ta : TA} {p pos tpos : Pos} {elts : List Expr} {kk : Nat} (hg : Gl X "zip") (hm : X.mg "zip" = none) (ha : PA X [e, e2, e3] ta)
    (hs : starEach [e, e2, e3] X.env = (false, eval e X.env) :: starEach [e2, e3] X.env := by rfl) (hpl : (backTo pos (starEach [e2, e3] X.env)).any (·.1) = false := by rfl) (h : X.K = K := by rfl) :
    PI X (.Tuple elts kk tpos) (.Call (.Name "zip" p) [e, e2, e3] [] pos) (iZip3 K ta) := h ▸ pi_zip3 hg hm ha hs hpl
def Y3 (f g k : Nat → Option V) : Nat → Hp → V → Hp → Prop := fun i H v H2 => ∃ T x y z, v = .ref T ∧ H T = none ∧ H2 = upd H T (.tup [x, y, z]) ∧ f i = some x ∧ g i = some y ∧ k i = some z
theorem walk_z3 {K : PySem.W.Frag} {a b c : Addr} {xs ys zs : List V} (h1 : ys.length = xs.length) (h2 : zs.length = xs.length) : Walk (It3 K a b c) xs.length (fun H => SqL K H a xs ∧ SqL K H b ys ∧ SqL K H c zs) (Y3 (fun i => xs[i]?) (fun i => ys[i]?) (fun i => zs[i]?)) := by
  refine ⟨fun i _ hi hs => ⟨xs, ys, zs, xs[i], ys[i]'(by omega), zs[i]'(by omega), hs.1, hs.2.1, hs.2.2, by simp [hi], by simp [show i < ys.length by omega], by simp [show i < zs.length by omega]⟩, fun _ hs => ⟨xs, ys, zs, hs.1, hs.2.1, hs.2.2, by omega, by omega, by omega⟩, fun i H v H2 _ hs y => ?_⟩
  obtain ⟨T, x, y, z, e1, e2, e3, e4, e5, e6⟩ := y
  exact ⟨T, x, y, z, e1, e2, e3, e4 xs hs.1, e5 ys hs.2.1, e6 zs hs.2.2⟩
end Pot

namespace Pot
open PySem PySem.Spec PyProof.Rows L2
open PySem.Calls
open PySem.W (sortingHeap copyHeap sortLe alike alikeAll keyToks keyToksAll dataLt dataKind KatLex SortsAt sortVals dataType EachIs)
/-! ### sorted of rows that are told apart by parts that can be compared -/
/-- up to the first part in which they differ, that one too, two rows are alike -/
def okCmp : List PyData → List PyData → Bool
  | x :: xs, y :: ys => alike x y && (!PyData.eqv x y || okCmp xs ys)
  | [], [] => true
  | _, _ => false
section
variable {prog : Program} {w : World} {A : Around} {s : Shared}
theorem kat_ok {b fin : Bool} {Q : Bool → Shared → Prop} : ∀ (xs ys : List PyData) (i : Nat) (vs ws : List Value) (as bs : List Addr), ReadsAll s.heap vs xs as → ReadsAll s.heap ws ys bs → okCmp xs ys = true → A.units + min (PyData.depthAll xs) (PyData.depthAll ys) < cLine → (b = true → i = 0 → ∀ x r t, xs = x :: r → x ≠ .tuple t) → fin = decide (xs.length < ys.length) →
    Q (PyProof.Rows.lexLt itemOrd (keyToksAll xs) (keyToksAll ys)) s → KatLex prog w A b fin Q (vs.zip ws) i s := by
  intro xs
  induction xs with
  | nil =>
    intro ys i vs ws as bs ra rb ok hu hb hf hq
    have := PySem.W.katLex_alike (prog := prog) (w := w) (A := A) (s := s) (b := b) (fin := fin) (Q := Q) [] ys i vs ws as bs ra rb
    cases ys with
    | nil => exact this rfl hu hb hf hq
    | cons y ys => cases ok
  | cons x xs ih =>
    intro ys i vs ws as bs ra rb ok hu hb hf hq
    cases ys with
    | nil => cases ok
    | cons y ys =>
      obtain ⟨al, nx⟩ := Bool.and_eq_true_iff.mp ok
      have hf2 : fin = decide (xs.length < ys.length) := by rw [hf]; simp only [List.length_cons, Nat.add_lt_add_iff_right]
      cases ra with
      | cons r rs =>
        cases rb with
        | cons r2 rs2 =>
          rw [List.zip_cons_cons]
          refine PySem.W.kat_cons (PySem.W.eqAt_alike x y A s _ _ _ _ r r2 al (SeqAt.room_head hu) prog w _ _ ?_)
          cases ex : PyData.eqv x y with
          | true =>
            rw [PySem.W.dataLt_all_yes al ex] at hq
            rw [ex] at nx
            exact PySem.W.kat_yes (ih ys (i + 1) _ _ _ _ rs rs2 nx (SeqAt.room_tail hu) (fun _ h0 => absurd h0 (Nat.succ_ne_zero i)) hf2 hq)
          | false =>
            rw [PySem.W.dataLt_all_no al ex] at hq
            refine PySem.W.kat_no (PySem.W.oneLt_alike (fun hbi t => ?_) r r2 al (PySem.W.ne_none_of al ex) (SeqAt.room_head hu) hq)
            obtain ⟨b1, b2⟩ := Bool.and_eq_true_iff.mp hbi
            exact hb b1 (by simpa using b2) x xs t rfl
theorem key_of {h : Heap} {ds : List PyData} {v : Value} {d : PyData} {as : List Addr} (hd : d ∈ ds) (r : Reads h v d as) : (dataKind h ds).keyOf v = some (keyToks d) := by
  have ex : ∃ e, e ∈ ds ∧ ∃ bs, Reads h v e bs := ⟨d, hd, as, r⟩
  have eq1 : (dataKind h ds).keyOf v = some (keyToks ex.choose) := dif_pos ex
  obtain ⟨_, bs, r2⟩ := ex.choose_spec
  rw [eq1, (Reads.unique r2 _ _ r).1]
/-- rows that can be sorted: tuples with a first part, the first parts alike, each two comparable -/
structure RowsCmp (ds : List PyData) : Prop where
  form : ∀ d ∈ ds, ∃ x r, d = .tuple (x :: r)
  first : ∀ x r x2 r2, PyData.tuple (x :: r) ∈ ds → PyData.tuple (x2 :: r2) ∈ ds → alike x x2 = true
  cmp : ∀ xs ys, PyData.tuple xs ∈ ds → PyData.tuple ys ∈ ds → okCmp xs ys = true
theorem sorts_rows {vs : List Value} {ds : List PyData} (e : EachIs (fun v d => ∃ as, Reads s.heap v d as) vs ds) (W : RowsCmp ds) (hu : ∀ d, d ∈ ds → A.units + d.depth < cLine) : SortsAt prog w A s (dataKind s.heap ds) vs := by
  refine ⟨fun v hv => ?_, ?_⟩
  · obtain ⟨d, hd, as, r⟩ := e.left v hv
    exact ⟨_, key_of hd r⟩
  · cases hds : ds with
    | nil =>
      rw [hds] at e
      cases e
      exact ⟨general', fun E x y a b Q ha _ _ => (by obtain ⟨d, _, hd, _⟩ := PySem.W.dataKind_inv ha; exact absurd hd (by simp)), fun h2 => absurd h2 (by simp)⟩
    | cons d0 ds0 =>
      rw [← hds]
      have m0 : d0 ∈ ds := by rw [hds]; exact List.mem_cons_self
      obtain ⟨x0, r0, e0⟩ := W.form d0 m0
      have m0 : PyData.tuple (x0 :: r0) ∈ ds := by rw [← e0]; exact m0
      refine ⟨tuples' (dataType x0 != Value.type "tuple"), ?_, fun h2 E Q hq => ?_⟩
      · intro E x y a b Q ha hb hq
        obtain ⟨d, as, hd, ra, rfl⟩ := PySem.W.dataKind_inv ha
        obtain ⟨d2, as2, hd2, rb, rfl⟩ := PySem.W.dataKind_inv hb
        obtain ⟨x1, r1, rfl⟩ := W.form d hd
        obtain ⟨x2, r2, rfl⟩ := W.form d2 hd2
        have room : A.units + min (PyData.tuple (x1 :: r1)).depth (PyData.tuple (x2 :: r2)).depth < cLine := Nat.lt_of_le_of_lt (Nat.add_le_add_left (Nat.min_le_left _ _) _) (hu _ hd)
        have hq2 : Q (dataLt (.tuple (x1 :: r1)) (.tuple (x2 :: r2))) s := hq
        rw [PySem.W.dataLt_tuple] at hq2
        cases ra with
        | @tuple l o us n _ _ h1 h2 h3 h4 =>
          cases rb with
          | @tuple l2 o2 us2 n2 _ _ k1 k2 k3 k4 =>
            have z1 : us.size = (x1 :: r1).length := by simpa using SeqAt.ReadsAll.length _ _ _ h4
            have z2 : us2.size = (x2 :: r2).length := by simpa using SeqAt.ReadsAll.length _ _ _ k4
            refine PySem.W.kat_lt h1 h3 k1 k3 (kat_ok (prog := prog) (w := w) (A := A) (s := s) (x1 :: r1) (x2 :: r2) 0 _ _ _ _ h4 k4 (W.cmp _ _ hd hd2) (by have := SeqAt.room_in room; omega) (fun hb1 _ xx rr t ex => ?_) (by rw [z1, z2]) hq2)
            obtain ⟨rfl, rfl⟩ := List.cons.inj ex
            rw [← PySem.W.dataType_alike (W.first _ _ _ _ hd m0)] at hb1
            exact PySem.W.dataType_tuple hb1 t
      · obtain ⟨fs, t1, t2, t3⟩ := PySem.W.each_katTups e W.form
        refine PySem.W.kat_kind (T := dataType x0) t1 (by omega) (fun f hf => ?_) (beq_self_eq_true _) hq
        obtain ⟨xx, rr, as, m1, m2⟩ := t3 f hf
        rw [← PySem.W.dataType_alike (W.first _ _ _ _ m1 m0)]
        exact PySem.W.looks_reads m2
end
theorem perm_lift {α β : Type} (f : α → β) {out l : List β} (h : out.Perm l) : ∀ L : List α, L.map f = l → ∃ L2 : List α, L2.Perm L ∧ L2.map f = out := by
  induction h with
  | nil => intro L e; exact ⟨L, .refl _, e⟩
  | cons x _ ih =>
    intro L e
    cases L with
    | nil => cases e
    | cons y L =>
      obtain ⟨e1, e2⟩ := List.cons.inj e
      obtain ⟨L2, p2, m2⟩ := ih L e2
      exact ⟨y :: L2, p2.cons y, by rw [List.map_cons, m2, e1]⟩
  | swap x y l =>
    intro L e
    match L, e with
    | a :: b :: L, e =>
      obtain ⟨e1, e2⟩ := List.cons.inj e
      obtain ⟨e2, e3⟩ := List.cons.inj e2
      exact ⟨b :: a :: L, .swap a b L, by rw [List.map_cons, List.map_cons, e1, e2, e3]⟩
  | trans _ _ ih1 ih2 =>
    intro L e
    obtain ⟨L2, p2, m2⟩ := ih2 L e
    obtain ⟨L3, p3, m3⟩ := ih1 L2 m2
    exact ⟨L3, p3.trans p2, m3⟩
section
variable {X : Cx} {K : PySem.W.Frag}
theorem each_reads {pins : List (Addr × Obj)} {σ : L2.St} {H : Hp} {s : Shared} (I : Inv X pins σ H s) : ∀ {xs : List V} {its : List Value} {ds : List PyData}, Vals xs its → DpAll X.K H xs ds → ∃ L : List (Value × V × PyData), L.map (·.1) = its ∧ L.map (·.2.1) = xs ∧ L.map (·.2.2) = ds ∧ ∀ t ∈ L, RelV t.2.1 t.1 ∧ Dp X.K H t.2.1 t.2.2
  | _, _, _, .nil, .nil => ⟨[], rfl, rfl, rfl, fun _ h => (List.not_mem_nil h).elim⟩
  | _, _, _, .cons (a := x) (b := u) r rs, .cons (d := d) p ps => by
    obtain ⟨L, h1, h2, h3, h4⟩ := each_reads I rs ps
    refine ⟨(u, x, d) :: L, by rw [List.map_cons, h1], by rw [List.map_cons, h2], by rw [List.map_cons, h3], fun t ht => ?_⟩
    rcases List.mem_cons.mp ht with e | e
    · rw [e]; exact ⟨r, p⟩
    · exact h4 t e
/-- sorted of a list of rows: a new list of the same ones -/
def rSortedR (K : PySem.W.Frag) : List V → Hp → VK → Prop := fun vs H Q => ∃ (a : Addr) (xs : List V) (ds : List PyData), vs = [V.ref a] ∧ SqL K H a xs ∧ DpAll K H xs ds ∧ RowsCmp ds ∧ (∀ d ∈ ds, d.depth ≤ 60) ∧
  ∀ (zs : List V) (es : List PyData) (p : Addr), DpAll K H zs es → es.Perm ds → H p = none → Q (.ref p) (upd H p (.lst zs))
theorem cr_sortedR (hu : X.A.units + 70 < cLine) : CallR X (.builtin "sorted") (rSortedR X.K) := by
  intro pins s σ H vs0 us0 Q I r h
  obtain ⟨a, xs, ds, rfl, hs, da, W, dep, q⟩ := h
  obtain ⟨its, rv, hl, hz⟩ := I.list hs
  rw [Vals.ref1 r]
  obtain ⟨L, e1, e2, e3, all⟩ := each_reads I rv da
  have er : EachIs (fun v d => ∃ as, Reads s.heap v d as) its ds := by
    rw [← e1, ← e3]
    clear e1 e2 e3
    induction L with
    | nil => exact .nil
    | cons t L ih =>
      have ht := all t List.mem_cons_self
      exact .cons (Dp.reads I _ _ _ ht.2 ht.1) (ih fun x hx => all x (List.mem_cons_of_mem _ hx))
  have ll : its.length = xs.length := by rw [← e1, ← e2, List.length_map, List.length_map]
  have ln : its.length ≤ sizeLine := by rw [ll]; exact hz
  have er' : EachIs (fun v d => ∃ as, Reads (sortingHeap (copyHeap s.heap its) (s.heap.objs.size + 1) its) v d as) its ds := er.mono fun _ _ ⟨as, r⟩ => ⟨as, PyProof.Rows.Reads.keeps (fun _ _ => PySem.W.sorting_copy_old) r⟩
  have S := sorts_rows (prog := X.prog) (w := X.w) (A := X.A.in1.in1) (s := { s with heap := sortingHeap (copyHeap s.heap its) (s.heap.objs.size + 1) its }) er' W (fun d hd => by have := dep d hd; simp only [Around.in1]; omega)
  refine PySem.W.sorted_vals hl.isList S ln ?_
  generalize eo : sortVals _ false its its = out
  have po : out.Perm its := by
    rw [← eo]
    unfold sortVals
    have := (List.mergeSort_perm (its.zip its) (sortLe (dataKind (sortingHeap (copyHeap s.heap its) (s.heap.objs.size + 1) its) ds).toKeyOrd false fun p : Keyed => PySem.W.keyD (dataKind (sortingHeap (copyHeap s.heap its) (s.heap.objs.size + 1) its) ds) p.1)).map Prod.snd
    rw [List.map_snd_zip (Nat.le_refl _)] at this
    exact this
  obtain ⟨L2, p2, m2⟩ := perm_lift (·.1) po L e1
  have rv2 : Vals (L2.map (·.2.1)) out := by
    rw [← m2]
    clear m2
    have hh : ∀ t ∈ L2, RelV t.2.1 t.1 := fun t ht => (all t (p2.mem_iff.mp ht)).1
    clear p2
    induction L2 with
    | nil => exact .nil
    | cons t L2 ih => exact .cons (hh t List.mem_cons_self) (ih fun x hx => hh x (List.mem_cons_of_mem _ hx))
  have dp2 : DpAll X.K H (L2.map (·.2.1)) (L2.map (·.2.2)) := by
    have hh : ∀ t ∈ L2, Dp X.K H t.2.1 t.2.2 := fun t ht => (all t (p2.mem_iff.mp ht)).2
    clear p2 m2 rv2
    induction L2 with
    | nil => exact .nil
    | cons t L2 ih => exact .cons (hh t List.mem_cons_self) (ih fun x hx => hh x (List.mem_cons_of_mem _ hx))
  have pd : (L2.map (·.2.2)).Perm ds := by rw [← e3]; exact p2.map _
  obtain ⟨ep, hat⟩ := PyProof.Rows.sortedAll_at s.heap its out.toArray
  have fr : H (s.heap.objs.size + 1) = none := I.hok.fresh (Nat.le_succ _)
  exact ⟨.ref _, upd H (s.heap.objs.size + 1) (.lst (L2.map (·.2.1))), I.laid (t' := s.toks) (fun _ _ => PyProof.Rows.sortedAll_old) (Nat.le_succ _) ⟨by rw [List.length_map, p2.length_eq, ← List.length_map (f := fun x : Value × V × PyData => x.1), e1]; exact ln, out, ep, rv2, hat⟩, rfl, q _ _ _ dp2 pd fr⟩
theorem kc_sortedR (hu : X.A.units + 70 < cLine) (h : X.K = K := by rfl) : CallR X (.builtin "sorted") (rSortedR K) := h ▸ cr_sortedR hu
end
end Pot

namespace Pot
open PySem PySem.Spec PyProof.Rows L2
/-! ### dicts whose keys are tuples: one written with one pair, the greatest of the values -/
def tDispT (tk tv : TE) : TE := fun σ H Q => ∀ p, H p = none → tk σ (upd H p (.dT [])) fun x H1 => tv σ H1 fun y H2 => ∃ (b : Addr) (k : List Key), x = .ref b ∧ H2 b = some (.tup (k.map kV)) ∧ H2 p = some (.dT []) ∧ Q (.ref p) (upd H2 p (.dT [(k, y)]))
def rValsT : V → List V → Hp → VK → Prop := fun x xs H Q => ∃ (a : Addr) (kvs : List (List Key × V)), x = .ref a ∧ xs = [] ∧ H a = some (.dT kvs) ∧ ∀ p, H p = none → Q (.ref p) (upd H p (viewO "dict_values" p a))
def rMaxT : List V → Hp → VK → Prop := fun xs H Q => ∃ (p a : Addr) (kvs : List (List Key × V)) (ns : List Int), xs = [.ref p] ∧ H p = some (viewO "dict_values" p a) ∧ H a = some (.dT kvs) ∧ kvs.map Prod.snd = ns.map V.int ∧ 0 < ns.length ∧ ∀ m, m ∈ ns → (∀ y, y ∈ ns → y ≤ m) → Q (.int m) H
section
variable {X : Cx}
theorem pe_dispT {k v : Expr} {pos : Pos} {tk tv : TE} (hu : X.A.units + 1 < cLine) (hk : PE X k tk) (hv : PE X v tv) : PE X (.Dict [some k] [v] pos) (tDispT tk tv) := by
  refine ⟨fun pins s σ H Q I q => ?_⟩
  have fresh := I.hok.fresh (Nat.le_refl s.heap.objs.size)
  have J := I.laid (t' := s.toks) (a := s.heap.objs.size) (o := .dT []) (h' := s.heap.push { cls := .type "dict", data := .dict #[] }) (fun _ _ z => Heap.get?_push_of_some _ z) (Nat.le_refl _) (dt_empty s.heap I.big)
  have two : PPs X pos [some k] [v] [(tk, tv)] := pps_cons hk hv pps_nil
  rw [arm_eval_Dict, zip_pairTrees [some k] [v] X.env pos rfl rfl, dictDisplay_pairs _ (by exact List.cons_ne_nil _ _) (by exact Nat.le_of_ble_eq_true rfl)]
  have go := two.run pins _ σ _ (fun ps H2 => match ps with
    | [(x, y)] => ∃ (b : Addr) (k : List Key), x = .ref b ∧ H2 b = some (.tup (k.map kV)) ∧ H2 s.heap.objs.size = some (.dT []) ∧ Q (.ref s.heap.objs.size) (upd H2 s.heap.objs.size (.dT [(k, y)]))
    | _ => False) J (q _ fresh)
  refine wpAny_bind (wpAny_standAt (wpAny_bind (wpAny_subDictH (knd := tupleKind (mixKind X.prog X.w)) (Q := fun d s2 => wpAny (model X.prog X.w) X.A (pure (Value.ref d)) (EP X pins σ Q) X.xe s2) (show X.A.units < cLine by omega) (by exact Nat.le_of_ble_eq_true rfl) (thn go fun ws s2 res => ?_))))
  obtain ⟨ps, H2, I2, rel, z⟩ := res
  cases rel with
  | nil => exact z.elim
  | @cons a0 b0 as bs r0 t =>
    cases t with
    | cons _ _ => exact z.elim
    | nil =>
      obtain ⟨x, y⟩ := a0
      obtain ⟨u, r⟩ := b0
      obtain ⟨r1, r2⟩ := r0
      obtain ⟨b, ks, rfl, hb, hd, z⟩ := z
      obtain rfl : u = Value.ref b := r1
      obtain ⟨small, sys, xs, kt, dd⟩ := dt_of I2.hok hd
      cases kt
      refine ⟨[(ks, b, r)], ⟨rfl, rfl, L2.key_of I2.hok hb, trivial⟩, dd, fun h2 tk dd2 only => wpAny_pure ?_⟩
      obtain ⟨o, es, ep, at_, c1, c2, c3, c4, c5⟩ := dd2
      have J2 := d_write (t' := tk) I2 (by rw [hd]; exact True.intro) only ⟨o, at_⟩ (ob := .dT [(ks, y)]) ⟨by show 1 ≤ sizeLine; decide, sys, _, .cons ⟨rfl, by rw [upd_ne (ne_of hb hd (fun w => nomatch w))]; exact hb, r2⟩ .nil, o, es, ep, at_, c1, c2, c3, c5⟩
      exact ⟨.ref _, _, J2, rfl, z⟩
theorem mt_valuesT : MtR X "dict.values" rValsT := by
  intro pins s σ H x xs v us Q I rx rxs h
  obtain ⟨a, kvs, rfl, rfl, at_, q⟩ := h
  cases rx
  cases rxs
  obtain ⟨_, sys, xs, _, dd⟩ := dt_of I.hok at_
  obtain ⟨o, es, ep, lies, c1, c2, _⟩ := id dd
  refine call_meetsIn PySem.F.slot_dict_values dd.typeIs PySem.F.entry_dict_values (PySem.F.args_dict_values_1 _) (meets_dict_values_raw a sys) ⟨⟨es, ep, o, lies, c1, c2⟩, ?_⟩
  exact ⟨.ref s.heap.objs.size, _, I.laid (t' := s.toks) (fun _ _ z => Heap.get?_push_of_some _ z) (Nat.le_refl _) (viewO_ok (Heap.get?_push_size _ rfl)), rfl, q _ (I.hok.fresh (Nat.le_refl _))⟩
theorem mates {α β : Type} {F : α → β → Prop} : ∀ {l : List α} {m : List β} {i : Nat} {y : β}, Paired F l m → m[i]? = some y → ∃ x, l[i]? = some x ∧ F x y
  | _, _, i, y, .nil, g => by simp at g
  | _, _, 0, y, .cons (a := x) f _, g => ⟨x, rfl, by cases g; exact f⟩
  | _, _, i + 1, y, .cons _ t, g => mates (i := i) t g
theorem cr_maxT (hc : X.calm = true) : CallR X (.builtin "max") rMaxT := by
  intro pins s σ H xs us Q I rx h
  obtain ⟨p, a, kvs, ns, rfl, view, at_, vals, some_, q⟩ := h
  rw [Vals.ref1 rx]
  have hv : s.heap.get? p = some (DSub.viewOb "dict_values" a) := (show ObjOk X.prog X.w H s.heap p (viewO "dict_values" p a) from I.hok p _ view).1
  obtain ⟨_, sys, xs, kt, dd⟩ := dt_of I.hok at_
  obtain ⟨o, es, ep, lies, c1, c2, c3, c4, c5⟩ := id dd
  have n1 : kvs.length = ns.length := by simpa using congrArg List.length vals
  have n2 : xs.length = kvs.length := (Paired.length kt).symm
  have n3 : es.size = ns.length := by rw [size_of_entries c3]; omega
  have val : ∀ (i : Nat) (e : DictEntry), es[i]? = some e → ∃ t, e.val = .int (ns.getD i 0) t := fun i e g => by
    rw [entry_at c3, Option.map_eq_some_iff] at g
    obtain ⟨y, gy, rfl⟩ := g
    obtain ⟨x, gx, f⟩ := mates kt gy
    have g2 : (kvs.map Prod.snd)[i]? = some x.2 := by rw [List.getElem?_map, gx]; rfl
    rw [vals, List.getElem?_map, Option.map_eq_some_iff] at g2
    obtain ⟨n, gn, ex⟩ := g2
    have r := f.2.2
    rw [← ex] at r
    obtain ⟨t, et⟩ := r
    refine ⟨t, ?_⟩
    rw [List.getD_eq_getElem?_getD, gn]
    exact et
  have la : a < s.heap.objs.size := Heap.lt_size lies
  refine call_max_walk (DSub.iter_vals hv lies c2 ?_)
  refine ⟨s.heap.objs.size, [s.heap.objs.size, a], [s.heap.objs.size], es.size, fun i v => ∃ t, v = .int (ns.getD i 0) t, _, fun i j => decide (ns.getD i 0 > ns.getD j 0), rfl, DSub.walksVal (a := a) (show X.A.in1.handled = none from I.ok.hd hc) (Nat.ne_of_lt la) c2 val, ⟨Heap.get?_push_size _ rfl, Heap.get?_push_of_some _ lies⟩, fun b hb => ?_, by omega, CmpOf.ints_gt (fun i => ns.getD i 0) (fun i v z => z), fun v h2 tk is_ keep => ?_⟩
  · show b < (s.heap.push _).objs.size
    rw [Heap.size_push]
    rcases List.mem_cons.mp hb with e | e
    · exact e ▸ Nat.lt_succ_self _
    · exact List.mem_singleton.mp e ▸ Nat.lt_succ_of_lt la
  · obtain ⟨t, rfl⟩ := is_
    obtain ⟨b1, b2⟩ := argBest_gt (fun i => ns.getD i 0) (es.size - 1)
    refine ⟨.int _, H, I.kept (t' := tk) fun b u g => keep b u (fun m => ?_) (Heap.get?_push_of_some _ g), ⟨t, rfl⟩, q _ ?_ fun y hy => ?_⟩
    · rw [List.mem_singleton.mp m] at g
      exact absurd (Heap.lt_size g) (Nat.lt_irrefl _)
    · have lb : argBest (fun i j => decide (ns.getD i 0 > ns.getD j 0)) (es.size - 1) ≤ es.size - 1 := b1
      exact PySem.getD_mem (by omega)
    · obtain ⟨j, lj, e⟩ := List.mem_iff_getElem.mp hy
      have top : ns.getD j 0 ≤ ns.getD (argBest (fun i j => decide (ns.getD i 0 > ns.getD j 0)) (es.size - 1)) 0 := b2 j (by omega)
      have g : ns.getD j 0 = y := by rw [List.getD_eq_getElem?_getD, List.getElem?_eq_getElem lj, ← e]; rfl
      rw [g] at top
      exact top
end
end Pot

namespace Pot
open PySem PySem.Spec PyProof.Rows L2
/-! ### the least and the greatest of a list of numbers -/
section
variable {X : Cx} {K : PySem.W.Frag}
theorem kc_min (hc : X.calm = true := by rfl) (h : X.K = K := by rfl) : CallR X (.builtin "min") (rMin K) := h ▸ cr_min hc
theorem kc_max (hc : X.calm = true := by rfl) (h : X.K = K := by rfl) : CallR X (.builtin "max") (rMax K) := h ▸ cr_max hc
end
end Pot

namespace Pot
open PySem PySem.Spec PyProof.Rows L2
/-! ### the least of a list of rows; the greatest of whole numbers, or another thing where there is none -/
theorem reads_of {h : Heap} : ∀ {L : List (Value × V × PyData)}, (∀ t ∈ L, ∃ as, Reads h t.1 t.2.2 as) → ∃ as, ReadsAll h (L.map (·.1)) (L.map (·.2.2)) as
  | [], _ => ⟨_, .nil⟩
  | t :: L, H => by
    obtain ⟨as, r⟩ := H t List.mem_cons_self
    obtain ⟨bs, rs⟩ := reads_of fun x hx => H x (List.mem_cons_of_mem _ hx)
    exact ⟨_, .cons r rs⟩
section
variable {X : Cx} {K : PySem.W.Frag}
def rMinD (K : PySem.W.Frag) : List V → Hp → VK → Prop := fun vs H Q => ∃ (a : Addr) (xs : List V) (d : PyData) (ds : List PyData), vs = [V.ref a] ∧ SqL K H a xs ∧ DpAll K H xs (d :: ds) ∧ PySem.W.AlikeAll (d :: ds) ∧ PyData.depthAll (d :: ds) ≤ 60 ∧
  ∀ (v : V) (i : Nat), xs[i]? = some v → (d :: ds)[i]? = some (PySem.W.minD d ds) → Q v H
theorem cr_minD (hc : X.calm = true) (hu : X.A.units + 64 < cLine) : CallR X (.builtin "min") (rMinD X.K) := by
  intro pins s σ H vs0 us0 Q I r h
  obtain ⟨a, xs, d, ds, rfl, hs, da, al, dep, q⟩ := h
  obtain ⟨its, rv, hl, hz⟩ := I.list hs
  rw [Vals.ref1 r]
  obtain ⟨L, e1, e2, e3, all⟩ := each_reads I rv da
  obtain ⟨as, rd⟩ := reads_of (h := s.heap) fun t ht => Dp.reads I _ _ _ (all t ht).2 (all t ht).1
  rw [e1, e3] at rd
  have rd : ReadsAll s.heap its.toArray.toList (d :: ds) as := rd
  have hn : its.toArray.size = ds.length + 1 := PySem.W.readsAll_len rd
  have hh : X.A.handled = none := I.ok.hd hc
  refine PySem.call_min_walkH (PySem.W.iter_listW (A := X.A.in1) hh hl.isList fun s₂ e W st hfp hw hk => ?_)
  refine ⟨_, _, _, _, _, _, _, s.heap, _, rfl, W, st, hfp, by omega, hw, hk, PySem.W.cmpIn_lt (A := X.A.in1) rd al (by show X.A.units + 1 + _ < _; omega), fun v s' hP m => ?_⟩
  obtain ⟨h', tk, rfl, hk'⟩ := PySem.W.moved_old e rfl m
  have e4 : its.toArray.size - 1 = ds.length := by omega
  obtain ⟨b1, b2⟩ := PySem.W.argBest_fold PySem.W.dataLt PyData.none d ds ds.length (Nat.le_refl _)
  rw [List.take_length] at b2
  rw [e4] at hP
  generalize PySem.argBest (fun i j => PySem.W.dataLt ((d :: ds).getD i PyData.none) ((d :: ds).getD j PyData.none)) ds.length = i at hP b1 b2
  have hv : its[i]? = some v := by rw [List.getElem?_toArray] at hP; exact hP
  rw [← e1, List.getElem?_map] at hv
  obtain ⟨t, ht, rfl⟩ := Option.map_eq_some_iff.mp hv
  have tm := List.mem_of_getElem? ht
  refine ⟨t.2.1, H, I.kept hk', (all t tm).1, q t.2.1 i ?_ ?_⟩
  · rw [← e2, List.getElem?_map, ht]; rfl
  · have hi : i < (d :: ds).length := Nat.lt_succ_of_le b1
    rw [List.getD_eq_getElem?_getD, List.getElem?_eq_getElem hi] at b2
    rw [List.getElem?_eq_getElem hi]
    exact congrArg some b2
theorem kc_minD (hu : X.A.units + 64 < cLine) (hc : X.calm = true := by rfl) (h : X.K = K := by rfl) : CallR X (.builtin "min") (rMinD K) := h ▸ cr_minD hc hu
def rMaxO (K : PySem.W.Frag) : List V → List V → Hp → VK → Prop := fun vs zs H Q => ∃ (a : Addr) (ns : List Int) (m : Int), vs = [V.ref a] ∧ zs = [V.int m] ∧ SqL K H a (ns.map V.int) ∧ (ns = [] → Q (.int m) H) ∧ ∀ y ∈ ns, (∀ z ∈ ns, z ≤ y) → Q (.int y) H
theorem max_of : ∀ (ns : List Int) (n : Int), (ns.foldl max n ∈ n :: ns) ∧ ∀ z ∈ n :: ns, z ≤ ns.foldl max n
  | [], n => ⟨List.mem_cons_self, fun z hz => by rw [List.mem_singleton.mp hz]; exact Int.le_refl _⟩
  | k :: ns, n => by
    obtain ⟨h1, h2⟩ := max_of ns (max n k)
    rw [List.foldl_cons]
    refine ⟨?_, fun z hz => ?_⟩
    · rcases List.mem_cons.mp h1 with e | e
      · rw [e]
        by_cases c : n ≤ k
        · rw [show max n k = k by omega]; exact List.mem_cons_of_mem _ List.mem_cons_self
        · rw [show max n k = n by omega]; exact List.mem_cons_self
      · exact List.mem_cons_of_mem _ (List.mem_cons_of_mem _ e)
    · have hm := h2 (max n k) List.mem_cons_self
      rcases List.mem_cons.mp hz with rfl | hz
      · omega
      · rcases List.mem_cons.mp hz with rfl | hz
        · omega
        · exact h2 z (List.mem_cons_of_mem _ hz)
theorem dep_ints : ∀ ns : List Int, PyData.depthAll (ns.map PyData.int) = 0
  | [] => rfl
  | n :: ns => by show max 0 (PyData.depthAll (ns.map PyData.int)) = 0; rw [dep_ints ns]; rfl
theorem cr_maxO (hc : X.calm = true) (hu : X.A.units + 64 < cLine) : CallRK X (.builtin "max") ["default"] (rMaxO X.K) := by
  intro pins s σ H vs0 zs0 us0 ws0 Q I r r2 h
  obtain ⟨a, ns, m, rfl, rfl, hs, q0, q⟩ := h
  obtain ⟨its, rv, hl, hz⟩ := I.list hs
  rw [Vals.ref1 r]
  cases r2 with
  | cons r2 r3 =>
  cases r3
  obtain ⟨t, rfl⟩ := r2
  obtain ⟨L, e1, e2, e3, all⟩ := each_reads I rv (dp_ints ns)
  obtain ⟨as, rd⟩ := reads_of (h := s.heap) fun t ht => Dp.reads I _ _ _ (all t ht).2 (all t ht).1
  rw [e1, e3] at rd
  have rd : ReadsAll s.heap its.toArray.toList (ns.map PyData.int) as := rd
  have hh : X.A.handled = none := I.ok.hd hc
  have al : PySem.W.AlikeAll (ns.map PyData.int) := ⟨fun x hx y hy => by
    obtain ⟨i, _, rfl⟩ := List.mem_map.mp hx
    obtain ⟨j, _, rfl⟩ := List.mem_map.mp hy
    rfl, fun x hx e => by
    obtain ⟨i, _, rfl⟩ := List.mem_map.mp hx
    cases e⟩
  have dp := dep_ints ns
  refine PySem.W.max_list_default hh hl.isList rd al (by rw [dp]; omega) (fun e h' tk hk => ⟨.int m, H, I.kept hk, ⟨t, rfl⟩, q0 (List.map_eq_nil_iff.mp e)⟩) fun y ys i v h' tk bs e hv rr hk => ?_
  cases ns with
  | nil => cases e
  | cons n ns =>
    obtain ⟨rfl, rfl⟩ := List.cons.inj e
    rw [PySem.W.maxD_ints] at rr
    obtain ⟨h1, h2⟩ := max_of ns n
    cases rr
    exact ⟨.int _, H, I.kept hk, ⟨_, rfl⟩, q _ h1 h2⟩
theorem kc_maxO (hu : X.A.units + 64 < cLine) (hc : X.calm = true := by rfl) (h : X.K = K := by rfl) : CallRK X (.builtin "max") ["default"] (rMaxO K) := h ▸ cr_maxO hc hu
end
end Pot

namespace Pot
open PySem PySem.Spec PyProof.Rows L2
/-! ### the lesser of two rows -/
section
variable {X : Cx} {K : PySem.W.Frag}
theorem min_pairH {prog : Program} {w : World} {A : Around} {E : Value → Shared → Prop} {s : Shared} {a b : Value} {da db : PyData} {Q : Value → Shared → Prop} (hh : A.handled = none) (ra : ∃ as, Reads s.heap a da as) (rb : ∃ as, Reads s.heap b db as)
    (al : PySem.W.AlikeAll [da, db]) (hu : A.units + 1 + PyData.depthAll [da, db] < cLine)
    (q : ∀ h' tk, (∀ c o, s.heap.get? c = some o → h'.get? c = some o) → Q (if PySem.W.dataLt db da = true then b else a) { s with heap := h', toks := tk }) : wpAny (model prog w) A (call (.builtin "min") [a, b]) Q E s := by
  have nm : (toString "min" ++ toString ".loop" : String) = "min.loop" := by decide
  refine call_function_tree F.kind_min F.plain_min F.entry_min (F.args_min2 _ _) ?_
  show wpAny _ A.in1 (Builtin.Builtins.bindParams "min" ["key", "default"] 0 ⟨[], []⟩ >>= _) _ _ s
  refine wpAny_bind (wpAny_of_eq (show Builtin.Builtins.bindParams "min" ["key", "default"] 0 ⟨[], []⟩ = pure [none, none] from rfl) ?_)
  show wpAny _ A.in1 (newTuple [a, b] >>= _) _ _ s
  have k1 : ∀ c o, s.heap.get? c = some o → (s.heap.push { cls := .type "tuple", data := .seq #[a, b] }).get? c = some o := fun c o e => Heap.get?_push_of_some _ e
  have hT : (s.heap.push { cls := .type "tuple", data := .seq #[a, b] }).IsTuple s.heap.objs.size #[a, b] := ⟨_, Heap.get?_push_size _ rfl, rfl, 0, rfl⟩
  obtain ⟨as, ra⟩ := ra
  obtain ⟨bs, rb⟩ := rb
  refine wpAny_bind (wpAny_newObj_type (wpAny_bind (PySem.W.iter_tupleW (A := A.in1) hh hT fun s₂ es W st hfp hw hk => ?_)))
  refine wpAny_bind (wpAny_newObj_type ?_)
  have rd : ReadsAll (s.heap.push { cls := .type "tuple", data := .seq #[a, b] }) (#[a, b] : Array Value).toList [da, db] _ := .cons (PySem.W.reads_keeps k1 ra) (.cons (PySem.W.reads_keeps k1 rb) .nil)
  rw [nm]
  have C := PySem.W.cmpIn_lt (prog := prog) (w := w) (A := A.in1) (s := { s with heap := s.heap.push { cls := .type "tuple", data := .seq #[a, b] } }) rd al hu
  refine wpAny_pure ⟨plainId_quiet F.plain_min_loop _, PySem.codeAny_min_loop_firstH W _ (fun b o e => hw b o e) _ C s₂.heap.objs.size (fun z => Nat.lt_irrefl _ (hfp _ z)) (PySem.fresh_in hk) _ (Nat.zero_lt_succ 1) (fun c o e => Heap.get?_push_of_some _ (hk c o e))
    (W.frame 0 s₂ _ s₂.toks st (Nat.le_refl _) fun c _ o e => Heap.get?_push_of_some _ e) (Heap.get?_push_size _ rfl) fun v s' hP hm => ?_⟩
  obtain ⟨h', tk, rfl, hk'⟩ := PySem.W.moved_old es rfl (Moved.drop_new (tk := s₂.toks) hm (Nat.le_refl _))
  have hP : (#[a, b] : Array Value)[argBest (fun i j => PySem.W.dataLt ([da, db].getD i .none) ([da, db].getD j .none)) 1]? = some v := hP
  have ev : v = if PySem.W.dataLt db da = true then b else a := by
    by_cases c : PySem.W.dataLt db da = true
    · have e1 : argBest (fun i j => PySem.W.dataLt ([da, db].getD i .none) ([da, db].getD j .none)) 1 = 1 := if_pos c
      rw [e1] at hP
      rw [if_pos c]
      exact (Option.some.inj hP).symm
    · have e1 : argBest (fun i j => PySem.W.dataLt ([da, db].getD i .none) ([da, db].getD j .none)) 1 = 0 := if_neg c
      rw [e1] at hP
      rw [if_neg c]
      exact (Option.some.inj hP).symm
  rw [ev]
  exact q h' tk fun c o e => hk' c o (k1 c o e)
def rMin2D (K : PySem.W.Frag) : List V → Hp → VK → Prop := fun vs H Q => ∃ (v1 v2 : V) (d1 d2 : PyData), vs = [v1, v2] ∧ Dp K H v1 d1 ∧ Dp K H v2 d2 ∧ PySem.W.AlikeAll [d1, d2] ∧ PyData.depthAll [d1, d2] ≤ 60 ∧ Q (if PySem.W.dataLt d2 d1 = true then v2 else v1) H
theorem cr_min2D (hc : X.calm = true) (hu : X.A.units + 64 < cLine) : CallR X (.builtin "min") (rMin2D X.K) := by
  intro pins s σ H vs0 us0 Q I r h
  obtain ⟨v1, v2, d1, d2, rfl, p1, p2, al, dep, q⟩ := h
  obtain ⟨u1, u2, rfl, r1, r2⟩ := vals2 r
  refine min_pairH (I.ok.hd hc) (Dp.reads I _ _ _ p1 r1) (Dp.reads I _ _ _ p2 r2) al (by omega) fun h' tk k => ⟨_, H, I.kept k, ?_, q⟩
  by_cases c : PySem.W.dataLt d2 d1 = true
  · rw [if_pos c, if_pos c]; exact r2
  · rw [if_neg c, if_neg c]; exact r1
theorem kc_min2D (hu : X.A.units + 64 < cLine) (hc : X.calm = true := by rfl) (h : X.K = K := by rfl) : CallR X (.builtin "min") (rMin2D K) := h ▸ cr_min2D hc hu
end
end Pot

set_option maxHeartbeats 2000000
namespace Pot
open PySem PySem.Spec PyProof.Rows L2
/-! ### d.update(a list of pairs) -/
theorem call_upd_list {prog : Program} {w : World} {A : Around} {E : Value → Shared → Prop} {s : Shared} {d l : Addr} {ol : Obj} {items : Array Value} {n : Nat} {acc prs : List (Key × Value)} {Q : Value → Shared → Prop} (hh : A.handled = none) (hl : s.heap.get? l = some ol) (hc : ol.cls = .type "list") (hd : ol.dict = none)
    (hdat : ol.data = .seq items n) (hsz : items.size = prs.length) (hln : acc.length + prs.length ≤ sizeLine) (hm : s.heap.DictOf (mixKind prog w) d acc) (hld : l ≠ d)
    (ht : ∀ (j : Nat) (q : Key × Value), prs[j]? = some q → ∃ (b : Addr) (u : Value), items[j]? = some (.ref b) ∧ b ≠ d ∧ IsTup s.heap b #[u, q.2] ∧ keyIs q.1 u = true)
    (h : ∀ h' tk, h'.DictOf (mixKind prog w) d (merged acc prs) → (∀ b o, b ≠ d → s.heap.get? b = some o → h'.get? b = some o) → Q .none { s with heap := h', toks := tk }) :
    wpAny (model prog w) A (call (.builtin "dict.update") [.ref d, .ref l]) Q E s := by
  refine call_meetsIn F.slot_dict_update hm.typeIs F.entry_dict_update (F.args_dict_update_2 _ _)
    (S := fun A' R s' => A' = A ∧ s' = s ∧ ∀ h' tk, h'.DictOf (mixKind prog w) d (merged acc prs) → (∀ b o, b ≠ d → s.heap.get? b = some o → h'.get? b = some o) → R (.ok (.ret .none)) { s with heap := h', toks := tk })
    (fun A' R s' hS => ?_) ⟨rfl, rfl, h⟩
  obtain ⟨rfl, rfl, hq⟩ := hS
  refine meets_dict_update_arg hm.typeIs ?_
  unfold Builtin.Dict.updateFrom
  refine wpAny_bind (wpAny_typeOf (T := "list") ⟨ol, hl, hc⟩ ?_)
  rw [if_pos (by first | decide | rfl | simp)]
  refine wpAny_bind (miss_list hl hc hdat hd hh fun h1 tk1 hk1 => ?_)
  rw [if_pos (show (none : Option Value).isNone = true from rfl)]
  refine wpAny_bind (wpAny_rule ?_)
  have ll : h1.IsList l items := ⟨ol, hk1 _ _ hl, hc, n, hdat⟩
  have dlt : d < h1.objs.size := by
    obtain ⟨q, _, _, hq, _⟩ := id hm
    exact Heap.lt_size (hk1 _ _ hq)
  have llt : l < h1.objs.size := Heap.lt_size (hk1 _ _ hl)
  refine wpAny_bind (wpAny_pyIter_list ll ?_)
  have k2 : ∀ b o, h1.get? b = some o → (h1.push { cls := .type "list_iterator", data := .fields #[.ref l, .int 0 0] }).get? b = some o := fun b o e => Heap.get?_push_of_some _ e
  have key := upd_loop (prog := prog) (w := w) (A := A') (R := R) (S := d) (I := h1.objs.size) (l := l) (items := items) (res := Value.none) hh
    (Nat.ne_of_lt llt) (Nat.ne_of_lt dlt) hld.symm prs 0 acc 0 0
    { s' with heap := h1.push { cls := .type "list_iterator", data := .fields #[.ref l, .int 0 0] }, toks := tk1 } (by rw [hsz, Nat.zero_add]) hln
    (fun j q e => by
      obtain ⟨b, u, e1, e2, e3, e4⟩ := ht j q e
      exact ⟨b, u, by rw [Nat.zero_add]; exact e1, e2, Nat.ne_of_lt (e3.keeps fun c o z => hk1 _ _ z).lt, e3.keeps fun c o z => k2 _ _ (hk1 _ _ z), e4⟩)
    ⟨_, Heap.get?_push_size _ rfl, rfl, rfl⟩ (ll.at fun o e => k2 _ _ e) ((hm.at fun o e => hk1 _ _ e).at fun o e => k2 _ _ e)
    (fun h' tk hd' k => hq h' tk hd' fun b o bd e => k b o bd (Nat.ne_of_lt (Heap.lt_size (hk1 _ _ e))) (k2 _ _ (hk1 _ _ e)))
  first
    | exact wpAny_pure ⟨plainId_quiet ud_plain _, key⟩
    | exact wpAny_bind (wpAny_pure (wpAny_pure ⟨plainId_quiet ud_plain _, key⟩))
section
variable {X : Cx} {K : PySem.W.Frag}
def rUpdP (K : PySem.W.Frag) : V → List V → Hp → VK → Prop := fun x vs H Q => ∃ (d a : Addr) (kvs0 : List (Key × V)) (ps : List Addr) (kvs : List (Key × V)), x = .ref d ∧ vs = [.ref a] ∧ H d = some (.dK kvs0) ∧ SqL K H a (ps.map V.ref) ∧ Paired (fun p kv => SqT K H p [kV kv.1, kv.2]) ps kvs ∧ a ≠ d ∧ (∀ p ∈ ps, p ≠ d) ∧ kvs0.length + kvs.length ≤ sizeLine ∧
  Q .non (upd H d (.dK (mergeK kvs0 kvs)))
theorem mt_updP (hc : X.calm = true := by rfl) : MtM X "dict.update" (rUpdP X.K) := by
  intro pins s σ H x vs v us Q I rx rvs h
  obtain ⟨d, a, kvs0, ps, kvs, rfl, rfl, hd, hS, hp, had, hpd, hln, q⟩ := h
  cases rx
  obtain ⟨u, rfl, ru⟩ := rvs.one
  cases ru
  obtain ⟨z0, hdm, vs0, rel0, dd⟩ := dk_of I.hok hd
  obtain ⟨its, rv, pl, hz⟩ := I.list hS
  have ei := refs_at rv
  subst ei
  obtain ⟨prs, rel, hl, hpr⟩ := pairs_of I hp
  obtain ⟨o, n, ho, hcl, hdd, hdat⟩ := pl
  have lk : kvs.length = prs.length := rel.length
  have l0 : kvs0.length = vs0.length := rel0.length
  refine call_upd_list (I.ok.hd hc) ho hcl hdd hdat (by rw [List.size_toArray, List.length_map, hl]) (by omega) dd had (fun j q' e => ?_) fun h' tk hd' k => ?_
  · obtain ⟨b, u, e1, e2, e3⟩ := hpr j q' e
    exact ⟨b, u, by simp [e1], hpd b (List.mem_of_getElem? e1), e2, e3⟩
  · have hlen : (mergeK kvs0 kvs).length ≤ sizeLine := Nat.le_trans (length_mergeK kvs kvs0) hln
    have he : ∃ u, h'.get? d = some u := by
      obtain ⟨q, _, _, hq, _⟩ := id hd'
      exact ⟨q, hq⟩
    exact ⟨.non, upd H d (.dK (mergeK kvs0 kvs)), I.write (t' := tk) (by rw [hd]; exact True.intro) (.inl rfl) (fun b u nb e => k b u nb e) he (show ObjOk X.prog X.w _ _ _ (.dK (mergeK kvs0 kvs)) from ⟨hlen, hdm, merged vs0 prs, KV.merge rel rel0, hd'⟩), rfl, q⟩
theorem kt_updP (hc : X.calm = true := by rfl) (h : X.K = K := by rfl) : MtM X "dict.update" (rUpdP K) := h ▸ mt_updP hc
end
end Pot

namespace Pot
open PySem PySem.Spec PyProof.Rows L2
/-! ### sets of texts -/
def keyS (e : Int × Value) : Str := match e.2 with | .str k _ => k | _ => ""
def addS (ks : List Str) (k : Str) : List Str := if k ∈ ks then ks else k :: ks
/-- at a stands a set of just the texts ks, none twice -/
def SetS (P : Program) (w : World) (h : Heap) (a : Addr) (ks : List Str) : Prop := ∃ o es ep t,
  h.get? a = some o ∧ o.ExactSet ∧ o.data = .set es ep t ∧ (ElemsOf (strKind P w) es.toList ∧ (es.toList.map keyS).Perm ks ∧ ks.Nodup) ∧ es.size < scanBound ∧ t.fits es.size = true ∧ Ris t.place.toList ∧ (w.params.followText "set-order" = true ∨ t.led = true)
section
variable {P : Program} {w : World} {A : Around} {E : Value → Shared → Prop} {s : Shared} {a : Addr} {ks : List Str}
theorem SetS.at {h h' : Heap} (R : SetS P w h a ks) (k : ∀ o, h.get? a = some o → h'.get? a = some o) : SetS P w h' a ks := by
  obtain ⟨o, es, ep, t, ho, r⟩ := R
  exact ⟨o, es, ep, t, k o ho, r⟩
theorem str_is {e : Int × Value} {z : Str} (h : (∃ k, (strKind P w).is k e.2 = true ∧ e.1 = (strKind P w).hash k) ∧ e.2.scannable = true) : (strKind P w).is z e.2 = true ↔ keyS e = z := by
  obtain ⟨⟨k, h1, _⟩, _⟩ := h
  obtain ⟨t, h2⟩ := Value.isStrOf_shape h1
  unfold keyS
  rw [h2]
  constructor
  · intro h3
    exact (strKind P w).inj _ _ _ (strKind_is P w k t) h3
  · intro h3
    rw [← h3]
    exact strKind_is P w k t
theorem sets_tail {g : Bool → Sem Unit} (hg : ∀ (b : Bool) (z : Shared) (q : Unit → Shared → Prop), q () z → wpAny (model P w) A (g b) q E z)
    {o : Obj} {es : Array (Int × Value)} {ep : Nat} {t : SetTable} (ho : s.heap.get? a = some o) (hex : o.ExactSet) (hd : o.data = .set es ep t)
    {fs : Array (Int × Value)} {u : SetTable} (gg : ElemsOf (strKind P w) fs.toList ∧ (fs.toList.map keyS).Perm ks ∧ ks.Nodup)
    (hb : fs.size < scanBound) (hf : u.fits fs.size = true) (hr : Ris u.place.toList) (hl : w.params.followText "set-order" = true ∨ u.led = true) {was : Bool} {R : Option Bool → Shared → Prop}
    (hR : ∀ h', Heap.SameBut a s.heap h' → SetS P w h' a ks → R (some true) { s with heap := h' }) :
    wpAny (model P w) A (do
        storeSet a fs u
        if (!was && u.tooFull) = true then do
            g (relayAll u fs (SetTable.grown fs.size)).2.2
            storeSet a (relayAll u fs (SetTable.grown fs.size)).1 (relayAll u fs (SetTable.grown fs.size)).2.1
            pure (some true)
          else pure (some true)) R E s := by
  have o1 := store_at (es' := fs) (t' := u) ho hd
  have b1 := Heap.SameBut.update s.heap a (Obj.putSet fs u)
  refine wpAny_bind (wpAny_storeSet_of ho hd ?_ (fits_of_scanBound hb))
  by_cases hc : (!was && u.tooFull) = true
  · rw [if_pos hc]
    obtain ⟨p1, p2, p3, p4⟩ : _ ∧ _ ∧ _ ∧ _ := ⟨relayAll_perm u fs (SetTable.grown fs.size), relayAll_fits u fs (SetTable.grown fs.size), relayAll_ris u fs (SetTable.grown fs.size), relayAll_led u fs (SetTable.grown fs.size)⟩
    generalize relayAll u fs (SetTable.grown fs.size) = Y at p1 p2 p3 p4 ⊢
    obtain ⟨gs, v, x⟩ := Y
    have sz : gs.size = fs.size := by
      have := p1.length_eq
      simpa using this
    have hb2 : gs.size < scanBound := Nat.lt_of_le_of_lt (Nat.le_of_eq sz) hb
    refine wpAny_bind (hg _ _ _ (wpAny_bind (wpAny_storeSet_of o1 rfl ?_ (fits_of_scanBound hb2))))
    have o2 := store_at (es' := gs) (t' := v) o1 rfl
    refine wpAny_pure (hR _ (b1.trans (Heap.SameBut.update _ a _)) ⟨_, gs, _, v, o2, hex, rfl, ⟨fun e he => gg.1 e (p1.mem_iff.mp he), (p1.map keyS).trans gg.2.1, gg.2.2⟩, hb2, p2, p3, ?_⟩)
    rcases hl with z | z
    · exact .inl z
    · exact .inr (p4.trans z)
  · rw [if_neg hc]
    exact wpAny_pure (hR _ b1 ⟨_, fs, _, u, o1, hex, rfl, gg, hb, hf, hr, hl⟩)
theorem sets_add {k : Str} {tk : Tok} {Q : Bool → Shared → Prop} (R : SetS P w s.heap a ks) (room : ks.length + 1 < scanBound)
    (hQ : ∀ b h', Heap.SameBut a s.heap h' → SetS P w h' a (addS ks k) → Q b { s with heap := h' }) :
    wpAny (model P w) A (setAddHashed a (.str k tk) ((strKind P w).hash k)) Q E s := by
  obtain ⟨o, es, ep, t, ho, hex, hd, ⟨gel, gpm, gnd⟩, hb, hf, hr, hl⟩ := id R
  have isk : (strKind P w).is k (.str k tk) = true := strKind_is P w k tk
  have scn : (Value.str k tk).scannable = true := rfl
  unfold setAddHashed setAddHashedIn
  refine wpAny_holding (wpAny_bind (wpAny_setState_of ho hd hf ?_))
  dsimp only
  rw [byScan_of scn hb gel]
  simp only [↓reduceIte]
  unfold setAddByScan
  refine wpAny_bind (wpAny_bind (wpAny_rule (wpAny_bind (wpAny_setScan_of isk ho hd hf gel ?_))))
  cases hx : List.findIdx? (fun e => (strKind P w).is k e.2) es.toList with
  | some j =>
    dsimp only
    obtain ⟨hj, pj, _⟩ := List.findIdx?_eq_some_iff_getElem.mp hx
    have hm : k ∈ ks := gpm.mem_iff.mp (List.mem_map.mpr ⟨_, List.getElem_mem hj, (str_is (gel _ (List.getElem_mem hj))).mp pj⟩)
    refine wpAny_pure (wpAny_pure (hQ _ s.heap (Heap.SameBut.refl a s.heap) ?_))
    unfold addS
    rw [if_pos hm]
    exact R
  | none =>
    dsimp only
    have hn : k ∉ ks := fun z => by
      obtain ⟨e, he, q⟩ := List.mem_map.mp (gpm.mem_iff.mpr z)
      have c := List.findIdx?_eq_none_iff.mp hx e he
      rw [(str_is (gel e he)).mpr q] at c
      cases c
    obtain ⟨p1, p2, p3, p4⟩ : _ ∧ _ ∧ _ ∧ _ := ⟨layNew_perm t es ((strKind P w).hash k) (.str k tk), layNew_fits t es ((strKind P w).hash k) (.str k tk), layNew_ris t es ((strKind P w).hash k) (.str k tk) hr, layNew_led t es ((strKind P w).hash k) (.str k tk)⟩
    generalize layNew t es ((strKind P w).hash k) (.str k tk) = Y at p1 p2 p3 p4 ⊢
    obtain ⟨fs, u, was, gave⟩ := Y
    dsimp only at p1 p2 p3 p4 ⊢
    rw [Array.toList_push] at p1
    have pc := p1.trans (List.perm_append_singleton _ _)
    have eadd : addS ks k = k :: ks := if_neg hn
    have gg : ElemsOf (strKind P w) fs.toList ∧ (fs.toList.map keyS).Perm (addS ks k) ∧ (addS ks k).Nodup := by
      rw [eadd]
      refine ⟨fun e he => ?_, (pc.map keyS).trans (gpm.cons k), List.nodup_cons.mpr ⟨hn, gnd⟩⟩
      rcases List.mem_cons.mp (pc.mem_iff.mp he) with z | z
      · rw [z]; exact ⟨⟨k, isk, rfl⟩, scn⟩
      · exact gel e z
    have sz : fs.size = ks.length + 1 := by
      have h1 := gg.2.1.length_eq
      rw [eadd, List.length_map, Array.length_toList] at h1
      exact h1
    have hb1 : fs.size < scanBound := by rw [sz]; exact room
    have hled : w.params.followText "set-order" = true ∨ u.led = true := by
      rcases hl with z | z
      · exact .inl z
      · exact .inr (p4.trans z)
    have fin : ∀ h', Heap.SameBut a s.heap h' → SetS P w h' a (addS ks k) → Q true { s with heap := h' } := fun h' => hQ true h'
    refine wpAny_bind ?_
    have gw : ∀ (b : Bool) (z : Shared) (q : Unit → Shared → Prop), q () z → wpAny (model P w) A (match b with | true => rule "set.scan.the-table-gave-way" | false => pure ()) q E z := fun b z q hq => by
      cases b
      · exact wpAny_pure hq
      · exact wpAny_rule hq
    refine gw _ _ _ ?_
    split
    · refine wpAny_bind ?_
      rw [hashByValue_scannable 8 scn]
      refine wpAny_pure (sets_tail gw ho hex hd gg hb1 ?_ ?_ ?_ ?_)
      · first | (split <;> first | exact p2 | exact SetTable.fits_plain_off p2) | exact p2
      · first | (split <;> exact p3) | exact p3
      · first | (split <;> exact hled) | exact hled
      · intro h' sb r; dsimp only; exact wpAny_pure (fin h' sb r)
    · refine wpAny_bind (wpAny_pure ?_)
      simp only [↓reduceIte]
      refine sets_tail gw ho hex hd gg hb1 p2 p3 hled ?_
      intro h' sb r; dsimp only; exact wpAny_pure (fin h' sb r)
end
end Pot

namespace Pot
open PySem PySem.Spec PyProof.Rows L2 PySem.W PySem.Calls
/-- the texts of a row, none twice -/
def setL : List Str → List Str := List.foldl addS []
section
variable {P : Program} {w : World} {A : Around} {E : Value → Shared → Prop} {s : Shared}
theorem addS_len (ks : List Str) (k : Str) : (addS ks k).length ≤ ks.length + 1 := by
  unfold addS; split
  · omega
  · exact Nat.le_refl _
theorem setL_take {zs : List Str} {i : Nat} {z : Str} (h : zs[i]? = some z) : setL (zs.take (i + 1)) = addS (setL (zs.take i)) z := by
  unfold setL
  rw [List.take_add_one, h, List.foldl_append]; rfl
theorem fold_len (zs ks : List Str) : (List.foldl addS ks zs).length ≤ ks.length + zs.length := by
  induction zs generalizing ks with
  | nil => exact Nat.le_refl _
  | cons z zs ih =>
    have h1 := ih (addS ks z)
    have h2 := addS_len ks z
    simp only [List.foldl_cons, List.length_cons]
    omega
theorem setL_len (zs : List Str) : (setL zs).length ≤ zs.length := by have := fold_len zs []; simpa [setL] using this
theorem mem_addS {ks : List Str} {k x : Str} : x ∈ addS ks k ↔ x ∈ ks ∨ x = k := by
  unfold addS
  split
  · rename_i h
    exact ⟨.inl, fun z => z.elim id fun e => e ▸ h⟩
  · rw [List.mem_cons]; exact Or.comm
theorem mem_fold {x : Str} (zs : List Str) : ∀ ks : List Str, x ∈ List.foldl addS ks zs ↔ x ∈ ks ∨ x ∈ zs := by
  induction zs with
  | nil => intro ks; simp
  | cons z zs ih =>
    intro ks
    rw [List.foldl_cons, ih, mem_addS, List.mem_cons, or_assoc]
theorem mem_setL {x : Str} {zs : List Str} : x ∈ setL zs ↔ x ∈ zs := by
  have := mem_fold (x := x) zs []
  simpa [setL] using this
/-- set.update's loop over texts -/
theorem sets_loop {I : Addr} {fp wr : List Addr} {G : Array GenState → Array GenState → Prop} {n : Nat} {Pv : Nat → Value → Prop} {St : Nat → Shared → Prop} {R : Result → Shared → Prop}
    (W : WalksS P w A.in1 I fp wr G n Pv St) (S : Addr) (nf : S ∉ fp) (zs : List Str) (en : n = zs.length) (lb : zs.length + 1 < scanBound) (each : ∀ i v, Pv i v → ∃ z t, zs[i]? = some z ∧ v = .str z t) :
    ∀ (m i : Nat) (z : Shared), n - i = m → i ≤ n → St i z → SetS P w z.heap S (setL (zs.take i)) →
      (∀ z', Moved (S :: wr) G z z' → SetS P w z'.heap S (setL zs) → R (.ok (.ret .none)) z') →
      codeAny (model P w) A (.builtin "set.update.loop" ⟨[.ref S, .ref I], []⟩) R z := by
  have nw : S ∉ wr := fun h => nf (W.sub _ h)
  have up : ∀ b ∈ wr, b ∈ S :: wr := fun b hb => List.mem_cons_of_mem _ hb
  intro m
  induction m with
  | zero =>
    intro i z e1 e2 st hS hR
    obtain rfl : i = n := by omega
    refine codeAny_builtin F.entry_set_update_loop ?_
    rw [Around.under_plainId F.plain_set_update_loop _]
    show wpAny _ A.in1 (pyNext (.ref I) >>= _) _ _ z
    refine wpAny_bind (W.done z _ _ st fun z' mv => ?_)
    show wpAny _ A.in1 (ret Value.none) _ _ z'
    rw [List.take_of_length_le (show zs.length ≤ i by omega)] at hS
    exact wpAny_pure (hR z' (mv.mono up) (hS.at fun o e => mv.heap S o nw e))
  | succ m ih =>
    intro i z e1 e2 st hS hR
    have lt : i < n := by omega
    refine codeAny_builtin F.entry_set_update_loop ?_
    rw [Around.under_plainId F.plain_set_update_loop _]
    show wpAny _ A.in1 (pyNext (.ref I) >>= _) _ _ z
    refine wpAny_bind (W.item i z _ _ lt st fun v z' pv st' mv => ?_)
    obtain ⟨y, t, hy, rfl⟩ := each i v pv
    have hS' : SetS P w z'.heap S (setL (zs.take i)) := hS.at fun o e => mv.heap S o nw e
    show wpAny _ A.in1 (holding [Value.str y t] (setAdd S (.str y t)) >>= _) _ _ z'
    refine wpAny_bind (wpAny_holding ?_)
    unfold setAdd
    refine wpAny_holding (wpAny_bind ((strKind P w).pyHash (k := y) (strKind_is _ _ _ _) ?_))
    have len : (setL (zs.take i)).length + 1 < scanBound := by
      have h1 := setL_len (zs.take i)
      rw [List.length_take] at h1
      omega
    refine sets_add (s := { z' with toks := z'.toks + 1 }) hS' len fun b h' sb hS2 => ?_
    rw [← setL_take hy] at hS2
    refine wpAny_pure ⟨plainId_quiet F.plain_set_update_loop _, ih (i + 1) _ (by omega) lt (W.frame _ z' _ _ st' (Nat.le_succ _) fun b hb o e => ?_) hS2 fun z'' mv2 hS3 => ?_⟩
    · exact (sb.2 b fun h => nf (h ▸ hb)).trans e
    · refine hR z'' (Moved.trans W.gtrans ((mv.mono up).then_heap (Nat.le_succ _) fun b o hb e => ?_) mv2) hS3
      exact (sb.2 b fun h => hb (h ▸ List.mem_cons_self)).trans e
/-- what is wanted behind the filling -/
def FilledS (P : Program) (w : World) (s : Shared) (zs : List Str) (s' : Shared) : Prop := ∃ h' tk, s' = { s with heap := h', toks := tk } ∧ SetS P w h' s.heap.objs.size (setL zs) ∧ ∀ b o, s.heap.get? b = some o → h'.get? b = some o
theorem sets_new {h : Heap} {a : Addr} (ho : h.get? a = some (emptySet w)) : SetS P w h a [] := by
  refine ⟨_, #[], 0, _, ho, ⟨rfl, rfl, rfl⟩, rfl, ⟨fun e he => by simp at he, List.Perm.nil, List.nodup_nil⟩, by decide, rfl, List.Pairwise.nil, ?_⟩
  show _ ∨ (!w.params.followText "set-order") = true
  cases w.params.followText "set-order"
  · exact .inr rfl
  · exact .inl rfl
set_option maxHeartbeats 4000000 in
theorem call_set_ls {l : Addr} {items : Array Value} (zs : List Str) {Q : Value → Shared → Prop} (hh : A.handled = none) (hl : s.heap.IsList l items) (hit : StrsAre items.toList zs) (hb : zs.length + 1 < scanBound)
    (hq : ∀ s', FilledS P w s zs s' → Q (.ref s.heap.objs.size) s') : wpAny (model P w) A (call (.type "set") [.ref l]) Q E s := by
  have size : items.size = zs.length := by
    rw [← Array.length_toList]; exact StrsAre.length hit
  have made := F.called_set.made
  have below := F.called_set.sub
  obtain ⟨_, _, chain⟩ := F.called_set.mro
  have nt := F.called_set.notType
  have cc := F.called_set.canCreate
  have ck := F.typeCall_set_1 (.ref l)
  refine wpAny_call (codeAny_of_tree (show wpAny _ _ (callAny (.type "set") _) _ _ _ from wpAny_pure ⟨Code.quiet_builtin _ (by decide +kernel), codeAny_builtin F.entry_type_call ?_⟩))
  rw [Around.under_plain (weight_type_call_type "set" [.ref l] []) rfl]
  repeat (any_goals (first | assumption | wp_step))
  refine codeAny_mono (code_set_led1 (.ref l) (E := E) (Q₁ := fun obj z => obj = .ref s.heap.objs.size ∧ z = { s with heap := s.heap.push (emptySet w) }) ⟨rfl, rfl⟩) fun r z hr => ?_
  rcases r with _ | fl
  case error => exact hr
  cases fl <;> first | exact hr.elim | skip
  obtain ⟨rfl, rfl⟩ := hr
  have at0 : (s.heap.push (emptySet w)).get? s.heap.objs.size = some (emptySet w) := Heap.get?_push_size _ rfl
  have ty0 : Shared.TypeIs { s with heap := s.heap.push (emptySet w) } (.ref s.heap.objs.size) "set" := ⟨_, at0, rfl⟩
  have li := F.called_set.init.lookup
  have bi := F.called_set.init.bind (.ref s.heap.objs.size)
  repeat (any_goals (first | assumption | wp_step))
  refine codeAny_mono (codeAny_call_builtin (R := wants (fun r z => r = .none ∧ FilledS P w s zs z) E) F.called_set.init.plain F.entry_set_init (check_set_init_1 ty0 ?_)) fun r z hz => ?_
  · obtain ⟨⟨_, od, _, os⟩, hol, hcl, nl, hdl⟩ := hl
    simp only at hcl hdl
    subst hcl
    subst hdl
    have keep : (s.heap.push (emptySet w)).get? l = some { cls := .type "list", dict := od, data := .seq items nl, slots := os } := Heap.get?_push_of_some _ hol
    have s1 := F.sub_list_set
    have s2 := F.sub_list_frozenset
    have s3 : (Value.type "list" == Value.type "dict") = false := by decide
    have isl : (s.heap.push (emptySet w)).IsList l items := ⟨_, keep, rfl, nl, rfl⟩
    unfold Builtin.«set.__init__» noKeywords Builtin.Frozenset.updateFrom
    generalize hPI : pyIter = PI
    wp_walk
    subst hPI
    refine wpAny_pyIter_list isl (wpAny_bind (wpAny_runValue ?_))
    have lt : l < s.heap.objs.size := Heap.lt_size hol
    have sz : (s.heap.push (emptySet w)).objs.size = s.heap.objs.size + 1 := Heap.size_push ..
    have ne1 : l ≠ (s.heap.push (emptySet w)).objs.size := by rw [sz]; exact Nat.ne_of_lt (Nat.lt_succ_of_lt lt)
    have ne2 : s.heap.objs.size ∉ [(s.heap.push (emptySet w)).objs.size, l] := by
      rw [sz]
      intro z
      rcases List.mem_cons.mp z with z | z
      · exact absurd z (Nat.ne_of_lt (Nat.lt_succ_self _))
      · exact absurd (List.mem_singleton.mp z) (Nat.ne_of_gt lt)
    have each : ∀ (i : Nat) (v : Value), items[i]? = some v → ∃ k t, zs[i]? = some k ∧ v = .str k t := fun i v hv => by
      have h1 : items.toList[i]? = some v := by rw [Array.getElem?_toList]; exact hv
      clear hv size isl keep hol hb hq
      generalize items.toList = L at hit h1
      induction hit generalizing i with
      | nil => simp at h1
      | cons k t hr ih =>
        cases i with
        | zero => exact ⟨k, t, rfl, by simpa using h1.symm⟩
        | succ i => exact ih i (by simpa using h1)
    refine sets_loop ((Walks.list (show A.in1.in1.in1.handled = none by simp [hh]) _ l ne1 items).toS) s.heap.objs.size ne2 zs size hb each (items.size - 0) 0 _ (by omega) (Nat.zero_le _) ⟨⟨_, Heap.get?_push_size _ rfl, rfl, rfl⟩, isl.push _⟩ (sets_new (Heap.get?_push_of_some _ at0)) fun s' hm hS => ?_
    obtain ⟨h', g, d, tk, o⟩ := s'
    cases (show g = s.gens from hm.gens)
    cases (show d = s.drawn from hm.drawn)
    cases (show o = s.os from hm.os)
    refine (show wpAny _ _ _ _ _ _ from wpAny_pure (show wpAny _ _ (ret Value.none) _ _ _ from wpAny_pure ⟨rfl, h', tk, rfl, hS, fun b o e => ?_⟩))
    have hb0 : b < s.heap.objs.size := Heap.lt_size e
    refine hm.heap b o (fun z => ?_) (Heap.get?_push_of_some _ (Heap.get?_push_of_some _ e))
    rcases List.mem_cons.mp z with z | z
    · exact absurd z (Nat.ne_of_lt hb0)
    · exact absurd ((List.mem_singleton.mp z).trans sz) (Nat.ne_of_lt (Nat.lt_succ_of_lt hb0))
  · rcases r with _ | fl
    case error => exact hz
    cases fl <;> first | exact hz.elim | skip
    obtain ⟨rfl, f⟩ := hz
    obtain ⟨h', tk, rfl, hS, k⟩ := id f
    repeat (any_goals (first | assumption | wp_step))
    exact hq _ ⟨_, _, rfl, hS, k⟩
/-- sorted of a set of texts -/
theorem sorted_sets {a : Addr} {ks : List Str} {Q : Value → Shared → Prop} (R : SetS P w s.heap a ks) (hh : A.handled = none) (hn4 : ks.length < 64)
    (hQ : ∀ s' p (out : Array Value) (c : Nat) (ys : List Str), (∀ b o, s.heap.get? b = some o → s'.heap.get? b = some o) → s'.gens = s.gens → s'.os = s.os → s.heap.objs.size ≤ p →
      s'.heap.get? p = some (seqObj "list" out c) → StrsAre out.toList ys → ys.Perm ks → sortedS ys = true → Q (.ref p) s') :
    wpAny (model P w) A (call (.builtin "sorted") [.ref a]) Q E s := by
  obtain ⟨o, es, ep, t, ho, hex, hd, ⟨gel, gpm, gnd⟩, hb, hf, hr, hl⟩ := R
  refine Calls.call_function_entry kind_sorted plain_sorted entry_sorted (args_sorted1 _) ?_
  unfold Builtin.«sorted»
  refine wpAny_bind (m := checkCount "sorted" 1 1 _) (wpAny_pure ?_)
  refine wpAny_bind (collect_set (A := A.in1) hh ⟨o, ho, hex.1, hd⟩ hf hb hr hl fun s1 vs k1 hz g1 o1 pm => ?_)
  have sl : ∀ l : List Value, (∀ v ∈ l, ∃ e : Int × Value, e ∈ es.toList ∧ e.2 = v) → StrsAre l (l.map fun v => keyS (0, v)) := by
    intro l
    induction l with
    | nil => intro _; exact .nil
    | cons v l ih =>
      intro h
      obtain ⟨e, he, rfl⟩ := h v List.mem_cons_self
      obtain ⟨⟨k, h1, _⟩, _⟩ := gel e he
      obtain ⟨tk, h2⟩ := Value.isStrOf_shape h1
      rw [h2]
      exact .cons k tk (ih fun u hu => h u (List.mem_cons_of_mem _ hu))
  have hv : StrsAre vs (vs.map fun v => keyS (0, v)) := sl vs fun v hv => by
    obtain ⟨e, he, rfl⟩ := List.mem_map.mp (pm.mem_iff.mp hv)
    exact ⟨e, he, rfl⟩
  have pk : (vs.map fun v => keyS (0, v)).Perm ks := by
    have h1 := pm.map fun v => keyS (0, v)
    rw [List.map_map] at h1
    exact h1.trans gpm
  have lv : vs.length = ks.length := by have := pk.length_eq; rw [List.length_map] at this; exact this
  have ls : vs.length ≤ sizeLine := by rw [lv, sizeLine_eq]; omega
  refine wpAny_bind (wpAny_newList ?_ ls)
  have hL : (s1.heap.push (seqObj "list" vs.toArray 0)).get? s1.heap.objs.size = some (seqObj "list" vs.toArray 0) := Heap.get?_push_size _ rfl
  refine wpAny_bind (wpAny_holding (wpAny_call_entry slot_list_sort ⟨_, hL, rfl⟩ entry_list_sort (list_sort_treeK strKind_oneLt hL hv.keysOf (fun v₁ v₂ rest e => keyKind_strs (by rw [← e]; exact hv)) (by rw [lv]; exact hn4) fun st' hp hs => ⟨_, rfl, ?_⟩) (args_list_sort _)))
  obtain ⟨ys, a1, a2, a3⟩ := sorted_out_str hv hp hs
  obtain ⟨c, hc⟩ := sortedHeap_at (vs := vs) (out := (arrOf st').map (·.2)) hL
  refine wpAny_pure ⟨_, rfl, hQ _ s1.heap.objs.size _ c ys (fun b u e => ?_) g1 o1 hz hc a1 (a2.trans pk) a3⟩
  have h1 := k1 b u e
  have hlt := Heap.lt_size h1
  show (sortedHeap (s1.heap.push (seqObj "list" vs.toArray 0)) s1.heap.objs.size vs _).get? b = some u
  rw [sortedHeap_old (Nat.ne_of_lt hlt) (by rw [size_push']; exact Nat.lt_succ_of_lt hlt)]
  exact Heap.get?_push_of_some _ h1
end
section
variable {X : Cx} {K : PySem.W.Frag}
def SetSO (P : Program) (w : World) (a : Addr) (ks : List Str) : HO := .ext fun h => SetS P w h a ks
theorem setS_new {P : Program} {w : World} {H : Hp} {h : Heap} {a : Addr} {ks : List Str} (R : SetS P w h a ks) : ObjOk P w H h a (SetSO P w a ks) := by
  have R0 := R
  obtain ⟨o, _, _, _, ho, _⟩ := R
  exact ⟨R0, ⟨o, ho⟩, fun h1 h2 R k => SetS.at R k⟩
/-- set(xs) of texts -/
def rSetLs (K : PySem.W.Frag) (P : Program) (w : World) : List V → Hp → VK → Prop := fun xs H Q => ∃ (a : Addr) (zs : List Str), xs = [V.ref a] ∧ SqL K H a (zs.map V.str) ∧ zs.length ≤ 1000 ∧
  ∀ (p : Addr), H p = none → Q (.ref p) (upd H p (SetSO P w p (setL zs)))
theorem cr_setLs (hc : X.calm = true) : CallR X (.type "set") (rSetLs X.K X.prog X.w) := by
  intro pins s σ H vs us Q I r h
  obtain ⟨a, zs, rfl, hS, hl, q⟩ := h
  rw [Vals.ref1 r]
  obtain ⟨its, rv, pl, hz⟩ := I.list hS
  refine call_set_ls zs (I.ok.hd hc) pl.isList (by simpa using Vals.strs rv) (by unfold scanBound; omega) fun s' f => ?_
  obtain ⟨h', tk, rfl, R, k⟩ := f
  have hn : H s.heap.objs.size = none := I.hok.fresh (Nat.le_refl _)
  exact ⟨.ref s.heap.objs.size, _, I.laid (t' := tk) k (Nat.le_refl _) (setS_new R), rfl, q _ hn⟩
theorem kc_setLs {P : Program} {w : World} (hc : X.calm = true := by rfl) (h : X.K = K := by rfl) (hp : X.prog = P := by rfl) (hw : X.w = w := by rfl) : CallR X (.type "set") (rSetLs K P w) := by subst h; subst hw; subst hp; exact cr_setLs hc
def rSortedSs (P : Program) (w : World) : List V → Hp → VK → Prop := fun vs H Q => ∃ (a : Addr) (ks : List Str), vs = [V.ref a] ∧ H a = some (SetSO P w a ks) ∧ ks.length < 64 ∧
  ∀ (ys : List Str) (p : Addr), ys.Perm ks → sortedS ys = true → H p = none → Q (.ref p) (upd H p (.lst (ys.map V.str)))
theorem cr_sortedSs (hc : X.calm = true) : CallR X (.builtin "sorted") (rSortedSs X.prog X.w) := by
  intro pins s σ H vs us Q I r h
  obtain ⟨a, ks, rfl, ha, h4, q⟩ := h
  rw [Vals.ref1 r]
  refine sorted_sets ((I.hok a _ ha).1) (I.ok.hd hc) h4 fun s' p out c ys k g o hp hg hi hs hl => ?_
  have hlen : (ys.map V.str).length ≤ sizeLine := by rw [List.length_map, hs.length_eq, sizeLine_eq]; omega
  have hn : H p = none := I.hok.fresh hp
  have J : Inv X pins σ (upd H p (.lst (ys.map V.str))) { s with heap := s'.heap, gens := s'.gens, drawn := s'.drawn, toks := s'.toks } :=
    I.call (ch := []) (Un.laid k hp hn) (I.hok.laid k hp ⟨hlen, out.toList, c, vals_of_strs hi, hg⟩) (by rw [g]; exact I.bare) (fun _ z => nomatch z)
  have e : s' = { s with heap := s'.heap, gens := s'.gens, drawn := s'.drawn, toks := s'.toks } := by
    cases s'; cases s; cases o; rfl
  rw [e]
  exact ⟨.ref p, _, J, rfl, q ys p hs hl hn⟩
theorem kc_sortedSs {P : Program} {w : World} (hc : X.calm = true := by rfl) (hp : X.prog = P := by rfl) (hw : X.w = w := by rfl) : CallR X (.builtin "sorted") (rSortedSs P w) := by subst hw; subst hp; exact cr_sortedSs hc
end
end Pot

namespace Pot
open PySem PySem.Spec PyProof.Rows L2
section
variable {X : Cx}
/-- len of a set of texts -/
def rLenSs (P : Program) (w : World) : List V → Hp → VK → Prop := fun xs H Q => ∃ (a : Addr) (ks : List Str), xs = [V.ref a] ∧ H a = some (SetSO P w a ks) ∧ Q (.int ks.length) H
theorem cr_lenSs : CallR X (.builtin "len") (rLenSs X.prog X.w) := by
  intro pins s σ H vs us Q I r h
  obtain ⟨a, ks, rfl, ha, q⟩ := h
  rw [Vals.ref1 r]
  obtain ⟨o, es, ep, t, ho, hex, hd, ⟨_, hp, _⟩, hb, hf, _⟩ := (I.hok a _ ha).1
  have e : es.size = ks.length := by rw [← hp.length_eq, List.length_map, Array.length_toList]
  refine PySem.call_len_set ho hex hd hf (by unfold scanBound at hb; omega) ⟨.int ks.length, H, I.tok _, ⟨_, by rw [e]⟩, q⟩
theorem kc_lenSs {P : Program} {w : World} (hp : X.prog = P := by rfl) (hw : X.w = w := by rfl) : CallR X (.builtin "len") (rLenSs P w) := by subst hp; subst hw; exact cr_lenSs
end
end Pot

namespace Pot
open PySem PySem.Spec PyProof.Rows L2
/-! ### words of letters -/
/-- at most n letters a to z -/
def Wd (n : Nat) (z : Str) : Prop := z.length ≤ n ∧ ∀ c ∈ z.cps.toList, 97 ≤ c ∧ c ≤ 122
theorem Wd.mono {n m : Nat} {z : Str} (h : Wd n z) (k : n ≤ m) : Wd m z := ⟨Nat.le_trans h.1 k, h.2⟩
theorem wd_add {n m : Nat} {a b : Str} (h : Wd n a) (k : Wd m b) : Wd (n + m) (a ++ b) := by
  refine ⟨by rw [strLen_append]; exact Nat.add_le_add h.1 k.1, fun c hc => ?_⟩
  have e : (a ++ b).cps.toList = a.cps.toList ++ b.cps.toList := by
    show (a.cps ++ b.cps).toList = _
    simp
  rw [e] at hc
  exact (List.mem_append.mp hc).elim (h.2 c) (k.2 c)
def az : List Nat := [97, 98, 99, 100, 101, 102, 103, 104, 105, 106, 107, 108, 109, 110, 111, 112, 113, 114, 115, 116, 117, 118, 119, 120, 121, 122]
theorem az_cps : (Str.ofString "abcdefghijklmnopqrstuvwxyz").cps.toList = az := by decide +kernel
theorem az_at : ∀ k : Nat, k < 26 → atI az ((k : Nat) : Int) = some (97 + k) := by unfold az; decide
theorem az_ix {i : Int} (h0 : 0 ≤ i) (h1 : i < 26) : atI (Str.ofString "abcdefghijklmnopqrstuvwxyz").cps.toList i = some (97 + i.toNat) := by
  rw [az_cps]
  have h := az_at i.toNat (by omega)
  rw [show ((i.toNat : Nat) : Int) = i by omega] at h
  exact h
theorem wd_sign {c : Nat} (h0 : 97 ≤ c) (h1 : c ≤ 122) : Wd 1 ⟨#[c]⟩ := ⟨Nat.le_refl _, fun d hd => by
  have e : d = c := by simpa using hd
  subst e; exact ⟨h0, h1⟩⟩
theorem wd_letter {i : Int} (h0 : 0 ≤ i) (h1 : i < 26) : Wd 1 ⟨#[97 + i.toNat]⟩ := wd_sign (by omega) (by omega)
theorem wd_nil : Wd 0 Str.empty := ⟨Nat.le_refl _, fun c hc => by have : c ∈ ([] : List Nat) := hc; simp at this⟩
theorem wd_join : ∀ {ys : List Str}, (∀ y ∈ ys, Wd 1 y) → Wd ys.length (Str.join Str.empty ys)
  | [], _ => wd_nil
  | [x], h => h x List.mem_cons_self
  | x :: y :: r, h => by
    have ih := wd_join (ys := y :: r) fun z hz => h z (List.mem_cons_of_mem _ hz)
    show Wd _ (x ++ Str.empty ++ Str.join Str.empty (y :: r))
    have h1 := wd_add (wd_add (h x List.mem_cons_self) wd_nil) ih
    exact h1.mono (by simp only [List.length_cons]; omega)
theorem cut_mem {z : Str} {lo hi : Option Int} {c : Nat} (h : c ∈ (cutS z lo hi).cps.toList) : c ∈ z.cps.toList := by
  unfold cutS at h
  have h2 : c ∈ (z.cps.toList.drop (HT.sIx z.length 0 lo)).take (HT.sIx z.length z.length hi - HT.sIx z.length 0 lo) := by simpa using h
  exact List.mem_of_mem_drop (List.mem_of_mem_take h2)
theorem cut_len (z : Str) (lo hi : Option Int) : (cutS z lo hi).length ≤ HT.sIx z.length z.length hi - HT.sIx z.length 0 lo := by
  unfold cutS
  show (List.toArray _).size ≤ _
  rw [List.size_toArray]
  exact List.length_take_le ..
theorem wd_head {n k : Nat} {z : Str} (h : Wd n z) : Wd k (cutS z none (some (k : Int))) := by
  refine ⟨Nat.le_trans (cut_len z none (some (k : Int))) ?_, fun c hc => h.2 c (cut_mem hc)⟩
  rw [HT.sIx_nat]
  omega
theorem wd_tail {n k : Nat} {z : Str} (h : Wd n z) : Wd (z.length - k) (cutS z (some (k : Int)) none) := by
  refine ⟨Nat.le_trans (cut_len z (some (k : Int)) none) ?_, fun c hc => h.2 c (cut_mem hc)⟩
  rw [HT.sIx_nat, HT.sIx_none]
  omega
theorem wd_cut {n : Nat} {z : Str} {lo hi : Option Int} (h : Wd n z) : Wd n (cutS z lo hi) := by
  refine ⟨Nat.le_trans (cut_len z lo hi) ?_, fun c hc => h.2 c (cut_mem hc)⟩
  have := HT.sIx_le z.length z.length (Nat.le_refl _) hi
  have := h.1
  omega
theorem wd_small {n : Nat} {z : Str} (h : Wd n z) (k : n ≤ 1000) : z.length ≤ sizeLine := Nat.le_trans h.1 (Nat.le_trans k (by decide))
theorem wd_codes {n : Nat} {z : Str} (h : Wd n z) : ∀ x ∈ z.cps.toList, x < 1114112 := fun x hx => by have := (h.2 x hx).2; omega
section
variable {K : PySem.W.Frag}
theorem kp_seq {d c l : Addr} {H H' : Hp} {xs : List V} (k : Kp d c H H') (n1 : l ≠ d) (n2 : l ≠ c) (h : SqL K H l xs) : SqL K H' l xs := by
  rcases h with (h | ⟨o, h⟩) | h
  · exact .inl (.inl (k _ _ n1 n2 h))
  · exact .inl (.inr ⟨o, k _ _ n1 n2 h⟩)
  · exact .inr h
end
end Pot

namespace Pot
open PySem PySem.Spec PyProof.Rows L2
/-- a row that tells of these two -/
def mat (a : Option Str) (b : Str) (r : Wsh) : Bool := decide (some r.1 = a) && decide (r.2.1 = b)
def namD : Option Str → PyData
  | none => .none
  | some z => .str z
theorem washF_filter (a : Option Str) (b : Str) : ∀ ws : List Wsh, washF ws a b = match ws.filter (mat a b) with
    | [] => some 0
    | r :: _ => r.2.2
  | [] => rfl
  | r :: ws => by
    show (if some r.1 = a ∧ r.2.1 = b then r.2.2 else washF ws a b) = _
    rw [List.filter_cons]
    by_cases h : some r.1 = a ∧ r.2.1 = b
    · have e : mat a b r = true := by unfold mat; rw [decide_eq_true h.1, decide_eq_true h.2]; rfl
      rw [if_pos h, if_pos e]
    · have e : ¬ mat a b r = true := by
        unfold mat
        rw [Bool.and_eq_true, decide_eq_true_eq, decide_eq_true_eq]
        exact h
      rw [if_neg h, if_neg e]
      exact washF_filter a b ws
theorem str_beq (x y : Str) : (x == y) = decide (x = y) := by
  by_cases h : x = y
  · subst h; rw [decide_eq_true rfl]; exact beq_self_eq_true x
  · rw [decide_eq_false h]; exact beq_false_of_ne h
theorem eqv_mat (a : Option Str) (b : Str) (r : Wsh) : PyData.eqv (.tuple [.str r.1, .str r.2.1]) (.tuple [namD a, .str b]) = mat a b r := by
  unfold mat
  cases a with
  | none =>
    rw [decide_eq_false (by intro z; cases z)]
    rfl
  | some z =>
    show ((r.1 == z) && ((r.2.1 == b) && true)) = _
    rw [str_beq, str_beq, Bool.and_true]
    congr 1
    by_cases h : r.1 = z
    · rw [decide_eq_true h, decide_eq_true (by rw [h])]
    · rw [decide_eq_false h, decide_eq_false fun q => h (Option.some.inj q)]
section
variable {K : PySem.W.Frag} {H : Hp}
theorem nam_dp : ∀ a : Option Str, Dp K H (namV a) (namD a)
  | none => .non
  | some z => .str z
theorem dpAll_opts : ∀ l : List Wsh, DpAll K H (l.map fun r => optV r.2.2) (l.map fun r => optD r.2.2)
  | [] => .nil
  | r :: l => .cons (opt_dp r.2.2) (dpAll_opts l)
end
/-- signs that there are -/
def Sg (z : Str) : Prop := ∀ x ∈ z.cps.toList, x < 1114112
theorem strOk_len {z : Str} (h : Sg z) : PyData.strOk z = true := by
  unfold PyData.strOk
  rw [Array.all_eq_true_iff_forall_mem]
  intro x hx
  exact decide_eq_true (h x (Array.mem_toList_iff.mpr hx))
theorem shaped_two {x y : Str} (h : Sg x) (k : Sg y) : SeqAt.shaped (.tuple [.str x, .str y]) = true := by
  show (PyData.strOk x && (PyData.strOk y && true)) && decide (max 0 (max 0 0) + 1 ≤ 64) = true
  rw [strOk_len h, strOk_len k]
  rfl
theorem shaped_nam {a : Option Str} {y : Str} (h : ∀ z, a = some z → Sg z) (k : Sg y) : SeqAt.shaped (.tuple [namD a, .str y]) = true := by
  cases a with
  | none =>
    show (true && (PyData.strOk y && true)) && decide (max 0 (max 0 0) + 1 ≤ 64) = true
    rw [strOk_len k]
    rfl
  | some z => exact shaped_two (h z rfl) k
theorem shaped_opts (l : List Wsh) : SeqAt.shaped (.list (l.map fun r => optD r.2.2)) = true := by
  have h1 : ∀ l : List Wsh, PyData.canLayAll0 (l.map fun r => optD r.2.2) = true := by
    intro l
    induction l with
    | nil => rfl
    | cons r l ih =>
      show (PyData.canLay0 (optD r.2.2) && PyData.canLayAll0 (l.map fun r => optD r.2.2)) = true
      rw [ih]
      cases r.2.2 <;> rfl
  have h2 : PyData.depthAll (l.map fun r => optD r.2.2) ≤ 0 := depthAll_map fun r _ => by rw [depth_opt]; exact Nat.le_refl _
  show (PyData.canLayAll0 (l.map fun r => optD r.2.2) && decide (PyData.depthAll (l.map fun r => optD r.2.2) + 1 ≤ 64)) = true
  rw [h1, decide_eq_true (by omega)]
  rfl
end Pot

namespace Pot
open PySem PySem.Spec PyProof.Rows L2
/-! ### a box of three numbers: the second below 2 ^ 62, the last at most n -/
def Bp (H : Hp) (b : Addr) (n : Nat) : Prop := ∃ x y z : Int, H b = some (.lst [.int x, .int y, .int z]) ∧ 0 ≤ z ∧ z ≤ n ∧ 0 ≤ y ∧ y < 2 ^ 62
section
variable {H H' : Hp} {b p : Addr} {n m : Nat} {o : HO}
theorem Bp.bx (B : Bp H b n) : Bx H b := by
  obtain ⟨x, y, z, h, _⟩ := B
  exact ⟨x, y, z, h⟩
theorem Bp.same (B : Bp H b n) (s : Same H H') : Bp H' b n := by
  obtain ⟨x, y, z, h, h2⟩ := B
  exact ⟨x, y, z, s _ _ h, h2⟩
theorem Bp.put (B : Bp H b n) (h : H p = none) : Bp (upd H p o) b n := B.same (same_upd h)
theorem Bp.wr (B : Bp H b n) (h : p ≠ b) : Bp (upd H p o) b n := by
  obtain ⟨x, y, z, e, h2⟩ := B
  exact ⟨x, y, z, by rw [upd_ne h.symm]; exact e, h2⟩
theorem Bp.mono (B : Bp H b n) (h : n ≤ m) : Bp H b m := by
  obtain ⟨x, y, z, e, h1, h2, h3⟩ := B
  exact ⟨x, y, z, e, h1, by omega, h3⟩
theorem Bp.ne (B : Bp H b n) (h : H p = none) : p ≠ b := B.bx.ne h
theorem Live.pw (B : Bp H b n) : Live [b] H := Live.one B.bx
end
end Pot

namespace Pot
open PySem PySem.Spec PyProof.Rows L2
/-! ### the names of cluster C: unlike each other -/
def Nm (z : Str) : Prop := Wd 8 z ∧ 0 < z.length
def ltN (x : Int) : Str := ⟨#[97 + x.toNat]⟩
theorem str_app (a b : Str) : (a ++ b).cps.toList = a.cps.toList ++ b.cps.toList := by
  show (a.cps ++ b.cps).toList = _
  simp
theorem str_eq {a b : Str} (h : a = b) : a.cps.toList = b.cps.toList := by rw [h]
theorem ltN_list (x : Int) : (ltN x).cps.toList = [97 + x.toNat] := rfl
theorem ltN_len (x : Int) : (ltN x).length = 1 := rfl
def vlN (fi stp : Int) (i : Nat) : Int := (fi + stp * (0 + (i : Int))) % 676
def bsN (hd tl : Str) (fi stp : Int) (i : Nat) : Str := hd ++ ltN (vlN fi stp i / 26) ++ ltN (vlN fi stp i % 26) ++ tl
def nmN (hd tl : Str) (fi stp lo : Int) (i : Nat) : Str := if lo = 1 ∧ i % 2 = 1 then bsN hd tl fi stp (i - 1) ++ ltN ((fi + (0 + (i : Int))) % 26) else bsN hd tl fi stp i
def StpN (s : Int) : Prop := s = 1 ∨ s = 3 ∨ s = 5 ∨ s = 7 ∨ s = 25 ∨ s = 675
theorem vlN_pos (fi stp : Int) (i : Nat) : 0 ≤ vlN fi stp i ∧ vlN fi stp i < 676 := ⟨Int.emod_nonneg _ (by decide), Int.emod_lt_of_pos _ (by decide)⟩
theorem bsN_len (hd tl : Str) (fi stp : Int) (i : Nat) : (bsN hd tl fi stp i).length = hd.length + 2 + tl.length := by
  unfold bsN
  rw [strLen_append, strLen_append, strLen_append, ltN_len, ltN_len]
theorem bsN_wd {hd tl : Str} (h1 : Wd 3 hd) (h2 : Wd 2 tl) (fi stp : Int) (i : Nat) : Wd 7 (bsN hd tl fi stp i) ∧ 0 < (bsN hd tl fi stp i).length := by
  have := vlN_pos fi stp i
  refine ⟨wd_add (wd_add (wd_add h1 (wd_letter (by omega) (by omega))) (wd_letter (by omega) (by omega))) h2, ?_⟩
  rw [bsN_len]; omega
theorem nmN_nm {hd tl : Str} (h1 : Wd 3 hd) (h2 : Wd 2 tl) (fi stp lo : Int) (i : Nat) : Nm (nmN hd tl fi stp lo i) := by
  unfold nmN
  have l0 : 0 ≤ (fi + (0 + (i : Int))) % 26 := Int.emod_nonneg _ (by decide)
  have l1 : (fi + (0 + (i : Int))) % 26 < 26 := Int.emod_lt_of_pos _ (by decide)
  by_cases h : lo = 1 ∧ i % 2 = 1
  · rw [if_pos h]
    have b := bsN_wd h1 h2 fi stp (i - 1)
    exact ⟨wd_add b.1 (wd_letter l0 l1), by rw [strLen_append]; have := b.2; omega⟩
  · rw [if_neg h]
    have b := bsN_wd h1 h2 fi stp i
    exact ⟨b.1.mono (by decide), b.2⟩
theorem stp_inj {fi stp : Int} (s : StpN stp) {i j : Nat} (hi : i < 12) (hj : j < 12) (h : vlN fi stp i = vlN fi stp j) : i = j := by
  unfold vlN at h
  rcases s with rfl | rfl | rfl | rfl | rfl | rfl <;> omega
theorem stp_inj26 {fi stp : Int} (s : StpN stp) {i j : Nat} (hi : i < 12) (hj : j < 12) (h : (fi + stp * (0 + (i : Int))) % 26 = (fi + stp * (0 + (j : Int))) % 26) : i = j := by
  rcases s with rfl | rfl | rfl | rfl | rfl | rfl <;> omega
theorem bsN_inj {hd tl : Str} {fi stp : Int} (s : StpN stp) {i j : Nat} (hi : i < 12) (hj : j < 12) (h : bsN hd tl fi stp i = bsN hd tl fi stp j) : i = j := by
  have h2 := str_eq h
  unfold bsN at h2
  simp only [str_app, ltN_list, List.append_assoc, List.append_cancel_left_eq, List.cons_append, List.nil_append, List.cons.injEq] at h2
  have a := vlN_pos fi stp i
  have b := vlN_pos fi stp j
  exact stp_inj (fi := fi) s hi hj (by omega)
theorem nmN_inj {hd tl : Str} {fi stp lo : Int} (s : StpN stp) {i j : Nat} (hi : i < 12) (hj : j < 12) (h : nmN hd tl fi stp lo i = nmN hd tl fi stp lo j) : i = j := by
  unfold nmN at h
  by_cases c1 : lo = 1 ∧ i % 2 = 1 <;> by_cases c2 : lo = 1 ∧ j % 2 = 1
  · rw [if_pos c1, if_pos c2] at h
    have h2 := str_eq h
    rw [str_app, str_app] at h2
    have l : (bsN hd tl fi stp (i - 1)).cps.toList.length = (bsN hd tl fi stp (j - 1)).cps.toList.length := by
      have e1 := bsN_len hd tl fi stp (i - 1)
      have e2 := bsN_len hd tl fi stp (j - 1)
      rw [Array.length_toList, Array.length_toList]
      exact e1.trans e2.symm
    have h3 := (List.append_inj h2 l).1
    have h4 : bsN hd tl fi stp (i - 1) = bsN hd tl fi stp (j - 1) := by
      cases e1 : bsN hd tl fi stp (i - 1) with
      | mk x => cases e2 : bsN hd tl fi stp (j - 1) with
        | mk y =>
          rw [e1, e2] at h3
          exact congrArg Str.mk (Array.toList_inj.mp h3)
    have := bsN_inj s (i := i - 1) (j := j - 1) (by omega) (by omega) h4
    omega
  · rw [if_pos c1, if_neg c2] at h
    have := congrArg Str.length h
    rw [strLen_append, bsN_len, bsN_len, ltN_len] at this
    omega
  · rw [if_neg c1, if_pos c2] at h
    have := congrArg Str.length h
    rw [strLen_append, bsN_len, bsN_len, ltN_len] at this
    omega
  · rw [if_neg c1, if_neg c2] at h
    exact bsN_inj s hi hj h
theorem nodup_map_range {f : Nat → Str} {m : Nat} (h : ∀ i j, i < m → j < m → f i = f j → i = j) : ((List.range m).map f).Nodup := by
  rw [List.Nodup, List.pairwise_map]
  refine List.Pairwise.imp_of_mem (fun {a b} ha hb hab e => ?_) (List.nodup_range (n := m))
  exact hab (h a b (List.mem_range.mp ha) (List.mem_range.mp hb) e)
theorem nmN_nodup {hd tl : Str} {fi stp lo : Int} (s : StpN stp) {m : Nat} (hm : m ≤ 12) : ((List.range m).map (nmN hd tl fi stp lo)).Nodup :=
  nodup_map_range fun i j hi hj h => nmN_inj s (by omega) (by omega) h
theorem letN_nodup {fi stp : Int} (s : StpN stp) {m : Nat} (hm : m ≤ 12) : ((List.range m).map fun i : Nat => ltN ((fi + stp * (0 + (i : Int))) % 26)).Nodup :=
  nodup_map_range fun i j hi hj h => by
    have h2 := str_eq h
    rw [ltN_list, ltN_list] at h2
    have h3 := (List.cons.inj h2).1
    have a0 : 0 ≤ (fi + stp * (0 + (i : Int))) % 26 := Int.emod_nonneg _ (by decide)
    have b0 : 0 ≤ (fi + stp * (0 + (j : Int))) % 26 := Int.emod_nonneg _ (by decide)
    exact stp_inj26 (fi := fi) s (by omega) (by omega) (by omega)
def wordsN : List Str := ["never", "at", "undo", "slots", "done", "wash", "pot", "kind", "fill", "gather", "team", "colour"]
theorem words_eq : Txt.split (Str.ofString "never at undo slots done wash pot kind fill gather team colour") (Str.ofString " ") = wordsN := by decide +kernel
theorem words_nm : ∀ z ∈ wordsN, Nm z := by
  unfold Nm Wd wordsN
  decide +kernel
theorem words_nodup : ∀ j : Nat, j < 12 → ((wordsN ++ wordsN).drop j |>.take 12).Nodup := by
  unfold wordsN
  decide +kernel
theorem words_cut {j m : Nat} (hj : j < 12) (hm : m ≤ 12) : ((wordsN ++ wordsN).drop j |>.take m).Nodup ∧ ((wordsN ++ wordsN).drop j |>.take m).length = m ∧ ∀ z ∈ ((wordsN ++ wordsN).drop j |>.take m), Nm z := by
  refine ⟨?_, ?_, fun z hz => ?_⟩
  · have := words_nodup j hj
    have e : ((wordsN ++ wordsN).drop j |>.take m) = (((wordsN ++ wordsN).drop j |>.take 12).take m) := by rw [List.take_take, Nat.min_eq_left hm]
    rw [e]
    exact this.sublist (List.take_sublist _ _)
  · rw [List.length_take, List.length_drop, List.length_append]
    show min m (12 + 12 - j) = m
    omega
  · have := List.mem_of_mem_drop (List.mem_of_mem_take hz)
    exact (List.mem_append.mp this).elim (words_nm z) (words_nm z)
theorem wd1_sum : ∀ {l : List Str}, (∀ y ∈ l, Wd 1 y) → (l.map (·.length)).sum ≤ l.length
  | [], _ => Nat.le_refl _
  | a :: r, h => by
    have h1 := (h a List.mem_cons_self).1
    have h2 := wd1_sum (l := r) fun y hy => h y (List.mem_cons_of_mem _ hy)
    simp only [List.map_cons, List.sum_cons, List.length_cons]
    omega
end Pot

namespace Pot
open PySem PySem.Spec PyProof.Rows L2
/-! ### the palettes of cluster C -/
structure PalC (cs : List Col) (ws : List Wsh) : Prop where
  ok : PalOk cs ws
  ne : 0 < cs.length
  le : cs.length ≤ 12
  ch : ∀ c ∈ cs, 1 ≤ c.2.1 ∧ c.2.1 ≤ 20 ∧ 0 ≤ c.2.2.1 ∧ c.2.2.1 ≤ 99
  wa : ∀ r ∈ ws, ∀ i, r.2.2 = some i → 0 ≤ i ∧ i ≤ 99
  wd : ∀ c ∈ cs, Nm c.1
  nd : (cs.map (·.1)).Nodup
  wp : (ws.map fun r => (r.1, r.2.1)).Nodup
  wn : ∀ r ∈ ws, r.1 ≠ r.2.1
/-- what stands while a palette is made: the names at N, colours at C, washes at W -/
structure PMc (K : PySem.W.Frag) (H0 : Hp) (b C W N : Addr) (ns : List Str) (n : Nat) (xs us : List V) (cs : List Col) (ws : List Wsh) (H : Hp) : Prop where
  st : Bp H b n
  sm : Sm [b] H0 H
  hN : off H [C, W, b] N = some (.lst (ns.map V.str))
  hC : H C = some (.lst xs)
  dC : DpAll K (off H [C, W, b]) xs (cs.map colD)
  hW : H W = some (.lst us)
  dW : DpAll K (off H [C, W, b]) us (ws.map washD)
structure PAc (H0 : Hp) (b C W : Addr) : Prop where
  Cb : C ≠ b
  Wb : W ≠ b
  CW : C ≠ W
  nC : H0 C = none
  nW : H0 W = none
section
variable {K : PySem.W.Frag} {H0 H H' : Hp} {b C W N p : Addr} {ns : List Str} {n m : Nat} {xs us : List V} {cs : List Col} {ws : List Wsh} {o : HO}
theorem PMc.live (P : PMc K H0 b C W N ns n xs us cs ws H) : Live [C, W, b] H := ((Live.pw P.st).cons P.hW).cons P.hC
theorem PMc.drawn (P : PMc K H0 b C W N ns n xs us cs ws H) (a : PAc H0 b C W) (st : Bp H' b m) (s : Sm [b] H H') : PMc K H0 b C W N ns m xs us cs ws H' :=
  have s2 : Sm [C, W, b] H H' := sm_one (by simp) s
  ⟨st, P.sm.trans s, s2 _ _ P.hN, sm1_at s a.Cb P.hC, dpAll_same s2 P.dC, sm1_at s a.Wb P.hW, dpAll_same s2 P.dW⟩
theorem PMc.same (P : PMc K H0 b C W N ns n xs us cs ws H) (s : Same H H') : PMc K H0 b C W N ns n xs us cs ws H' :=
  have s2 : Sm [C, W, b] H H' := sm_of s
  ⟨P.st.same s, P.sm.trans (sm_of s), s2 _ _ P.hN, s _ _ P.hC, dpAll_same s2 P.dC, s _ _ P.hW, dpAll_same s2 P.dW⟩
theorem PMc.put (P : PMc K H0 b C W N ns n xs us cs ws H) (h : H p = none) : PMc K H0 b C W N ns n xs us cs ws (upd H p o) := P.same (same_upd h)
theorem PMc.mono (P : PMc K H0 b C W N ns n xs us cs ws H) (h : n ≤ m) : PMc K H0 b C W N ns m xs us cs ws H := ⟨P.st.mono h, P.sm, P.hN, P.hC, P.dC, P.hW, P.dW⟩
theorem PMc.colour (P : PMc K H0 b C W N ns n xs us cs ws H) (a : PAc H0 b C W) {v : V} {r : Col} (hv : Dp K (off H [C, W, b]) v (colD r)) : PMc K H0 b C W N ns n (xs ++ [v]) us (cs ++ [r]) ws (upd H C (.lst (xs ++ [v]))) :=
  have s2 : Sm [C, W, b] H (upd H C (.lst (xs ++ [v]))) := sm_wr (by simp)
  ⟨P.st.wr a.Cb, smp P.sm a.nC, s2 _ _ P.hN, upd_same, by rw [List.map_append]; exact dpAll_same s2 (dpAll_app P.dC (.cons hv .nil)), by rw [upd_ne a.CW.symm]; exact P.hW, dpAll_same s2 P.dW⟩
theorem PMc.wash (P : PMc K H0 b C W N ns n xs us cs ws H) (a : PAc H0 b C W) {v : V} {r : Wsh} (hv : Dp K (off H [C, W, b]) v (washD r)) : PMc K H0 b C W N ns n xs (us ++ [v]) cs (ws ++ [r]) (upd H W (.lst (us ++ [v]))) :=
  have s2 : Sm [C, W, b] H (upd H W (.lst (us ++ [v]))) := sm_wr (by simp)
  ⟨P.st.wr a.Wb, smp P.sm a.nW, s2 _ _ P.hN, by rw [upd_ne a.CW]; exact P.hC, dpAll_same s2 P.dC, upd_same, by rw [List.map_append]; exact dpAll_same s2 (dpAll_app P.dW (.cons hv .nil))⟩
end
theorem rows_cols (cs : List Col) : RowsCmp (cs.map colD) := by
  refine ⟨fun d hd => ?_, fun x r x2 r2 h1 h2 => ?_, fun xs ys h1 h2 => ?_⟩
  · obtain ⟨c, _, rfl⟩ := List.mem_map.mp hd
    exact ⟨_, _, rfl⟩
  · obtain ⟨c, _, e⟩ := List.mem_map.mp h1
    obtain ⟨c2, _, e2⟩ := List.mem_map.mp h2
    obtain ⟨rfl, _⟩ := List.cons.inj (PyData.tuple.inj e)
    obtain ⟨rfl, _⟩ := List.cons.inj (PyData.tuple.inj e2)
    rfl
  · obtain ⟨c, _, e⟩ := List.mem_map.mp h1
    obtain ⟨c2, _, e2⟩ := List.mem_map.mp h2
    rw [← PyData.tuple.inj e, ← PyData.tuple.inj e2]
    have a1 : ∀ x y : Str, PySem.W.alike (.str x) (.str y) = true := fun _ _ => rfl
    have a2 : ∀ x y : Int, PySem.W.alike (.int x) (.int y) = true := fun _ _ => rfl
    simp only [okCmp, a1, a2, Bool.true_and, Bool.or_true, Bool.and_true]
theorem depth_col (c : Col) : (colD c).depth ≤ 60 := by
  show PyData.depthAll _ + 1 ≤ 60
  simp only [PyData.depthAll, PyData.depth]
  omega
theorem depth_wash (r : Wsh) : (washD r).depth ≤ 60 := by
  show PyData.depthAll _ + 1 ≤ 60
  cases h : r.2.2 <;> (simp only [PyData.depthAll, PyData.depth, optD]; omega)
theorem alike_opt (o : Option Int) : PySem.W.alike (optD o) (optD o) = true := by cases o <;> rfl
theorem pair_eq {ws : List Wsh} (h : (ws.map fun r => (r.1, r.2.1)).Nodup) {r r2 : Wsh} (h1 : r ∈ ws) (h2 : r2 ∈ ws) (e1 : r.1 = r2.1) (e2 : r.2.1 = r2.2.1) : r = r2 := by
  obtain ⟨i, hi, rfl⟩ := List.getElem_of_mem h1
  obtain ⟨j, hj, rfl⟩ := List.getElem_of_mem h2
  have := (List.getElem_inj (i := i) (j := j) (h₀ := by rw [List.length_map]; exact hi) (h₁ := by rw [List.length_map]; exact hj) h).mp (by rw [List.getElem_map, List.getElem_map]; exact Prod.ext e1 e2)
  subst this; rfl
theorem rows_wash {ws : List Wsh} (h : (ws.map fun r => (r.1, r.2.1)).Nodup) : RowsCmp (ws.map washD) := by
  refine ⟨fun d hd => ?_, fun x r x2 r2 h1 h2 => ?_, fun xs ys h1 h2 => ?_⟩
  · obtain ⟨c, _, rfl⟩ := List.mem_map.mp hd
    exact ⟨_, _, rfl⟩
  · obtain ⟨c, _, e⟩ := List.mem_map.mp h1
    obtain ⟨c2, _, e2⟩ := List.mem_map.mp h2
    obtain ⟨rfl, _⟩ := List.cons.inj (PyData.tuple.inj e)
    obtain ⟨rfl, _⟩ := List.cons.inj (PyData.tuple.inj e2)
    rfl
  · obtain ⟨c, m1, e⟩ := List.mem_map.mp h1
    obtain ⟨c2, m2, e2⟩ := List.mem_map.mp h2
    rw [← PyData.tuple.inj e, ← PyData.tuple.inj e2]
    have a1 : ∀ x y : Str, PySem.W.alike (.str x) (.str y) = true := fun _ _ => rfl
    simp only [okCmp, a1, Bool.true_and, Bool.or_true, Bool.and_true]
    cases e1 : PyData.eqv (.str c.1) (.str c2.1) with
    | false => rfl
    | true =>
      cases e3 : PyData.eqv (.str c.2.1) (.str c2.2.1) with
      | false => rfl
      | true =>
        have x1 : c.1 = c2.1 := by simpa [PyData.eqv] using e1
        have x2 : c.2.1 = c2.2.1 := by simpa [PyData.eqv] using e3
        rw [pair_eq h m1 m2 x1 x2, alike_opt]; rfl
section
variable {K : PySem.W.Frag}
theorem go_offB {H : Hp} {b : Addr} {n : Nat} (B : Bp H b n) (a : Addr) (us : List V) (h : SqT K H a us) : SqT K (off H [b]) a us := by
  obtain ⟨x, y, z, h1, _⟩ := B
  have go : ∀ o, (H a = some (.tup us) ∨ H a = some (.frz o (.tup us))) → a ∉ [b] := fun o e z => by
    rw [List.mem_singleton] at z; subst z; rw [h1] at e; rcases e with e | e <;> cases e
  rcases h with (h | ⟨o, h⟩) | h
  · exact .inl (.inl (by rw [off_out (go ⟨.none, none, .fields #[], #[]⟩ (.inl h))]; exact h))
  · exact .inl (.inr ⟨o, by rw [off_out (go o (.inr h))]; exact h⟩)
  · exact .inr h
theorem dp_offB {H : Hp} {b : Addr} {n : Nat} {v : V} {e : PyData} (B : Bp H b n) (h : noLAll.noL e) (p : Dp K H v e) : Dp K (off H [b]) v e := dp_go (go_offB B) h p
theorem dpAll_offB {H : Hp} {b : Addr} {n : Nat} {vs : List V} {es : List PyData} (B : Bp H b n) (h : noLAll es) (p : DpAll K H vs es) : DpAll K (off H [b]) vs es := dpAll_go (go_offB B) h p
end
theorem div_mod_inj {m i j : Nat} (h1 : i / m = j / m) (h2 : i % m = j % m) : i = j := by
  have a := Nat.div_add_mod i m
  have b := Nat.div_add_mod j m
  rw [h1, h2] at a
  omega
end Pot

namespace Pot
open PySem PySem.Spec PyProof.Rows L2
/-! ### a list that is filled while there is drawn, things beside it that stay -/
structure Acc (K : PySem.W.Frag) (H0 : Hp) (b R : Addr) (fs : List (V × PyData)) (n : Nat) (us : List V) (ds : List PyData) (H : Hp) : Prop where
  st : Bp H b n
  sm : Sm [b] H0 H
  Rb : R ≠ b
  nR : H0 R = none
  fr : ∀ p ∈ fs, Dp K (off H [R, b]) p.1 p.2
  hR : H R = some (.lst us)
  dR : DpAll K (off H [R, b]) us ds
section
variable {K : PySem.W.Frag} {H0 H H' : Hp} {b R p : Addr} {fs : List (V × PyData)} {n m : Nat} {us : List V} {ds : List PyData} {o : HO}
theorem Acc.live (M : Acc K H0 b R fs n us ds H) : Live [R, b] H := (Live.pw M.st).cons M.hR
theorem Acc.drawn (M : Acc K H0 b R fs n us ds H) (st : Bp H' b m) (s : Sm [b] H H') : Acc K H0 b R fs m us ds H' :=
  have s2 : Sm [R, b] H H' := sm_one (by simp) s
  ⟨st, M.sm.trans s, M.Rb, M.nR, fun q hq => dp_same s2 (M.fr q hq), sm1_at s M.Rb M.hR, dpAll_same s2 M.dR⟩
theorem Acc.same (M : Acc K H0 b R fs n us ds H) (s : Same H H') : Acc K H0 b R fs n us ds H' :=
  have s2 : Sm [R, b] H H' := sm_of s
  ⟨M.st.same s, M.sm.trans (sm_of s), M.Rb, M.nR, fun q hq => dp_same s2 (M.fr q hq), s _ _ M.hR, dpAll_same s2 M.dR⟩
theorem Acc.put (M : Acc K H0 b R fs n us ds H) (h : H p = none) : Acc K H0 b R fs n us ds (upd H p o) := M.same (same_upd h)
theorem Acc.mono (M : Acc K H0 b R fs n us ds H) (h : n ≤ m) : Acc K H0 b R fs m us ds H := ⟨M.st.mono h, M.sm, M.Rb, M.nR, M.fr, M.hR, M.dR⟩
theorem Acc.app (M : Acc K H0 b R fs n us ds H) {v : V} {d : PyData} (hv : Dp K (off H [R, b]) v d) : Acc K H0 b R fs n (us ++ [v]) (ds ++ [d]) (upd H R (.lst (us ++ [v]))) :=
  have s2 : Sm [R, b] H (upd H R (.lst (us ++ [v]))) := sm_wr (by simp)
  ⟨M.st.wr M.Rb, smp M.sm M.nR, M.Rb, M.nR, fun q hq => dp_same s2 (M.fr q hq), upd_same, dpAll_same s2 (dpAll_app M.dR (.cons hv .nil))⟩
/-- the list is new -/
theorem Acc.start (B : Bp H b n) (s : Sm [b] H0 H) (h : H R = none) (fr : ∀ p ∈ fs, Dp K (off H [b]) p.1 p.2) : Acc K H0 b R fs n [] [] (upd H R (.lst [])) :=
  ⟨B.put h, s.trans (sm_put h), B.ne h, sm_free s B.bx h, fun q hq => by
    have e : off (upd H R (.lst [])) [R, b] = off H [b] := off_fresh h
    rw [e]; exact fr q hq, upd_same, .nil⟩
theorem Acc.new (M : Acc K H0 b R fs n us ds H) (h : H p = none) : off (upd H p o) [R, b] p = some o := off_new M.live h
/-- the list done: a thing among the others -/
theorem Acc.done (M : Acc K H0 b R fs n us ds H) : Dp K (off H [b]) (.ref R) (.list ds) :=
  .lst (SqL.of (by rw [off_out (by simpa using M.Rb)]; exact M.hR)) (dpAll_same (off_mono (by simp)) M.dR)
theorem Acc.kept (M : Acc K H0 b R fs n us ds H) {q : V × PyData} (h : q ∈ fs) : Dp K (off H [b]) q.1 q.2 := dp_same (off_mono (by simp)) (M.fr q h)
end
theorem e106 : (10 : Int) ^ (6 : Int).toNat = 1000000 := by decide
end Pot

namespace Pot
open PySem PySem.Spec PyProof.Rows L2
section
variable {K : PySem.W.Frag}
/-! ### bounds of drawn data, its texts too -/
def txAll (n : Nat) : List PyData → Prop
  | [] => True
  | x :: xs => tx n x ∧ txAll n xs
where tx (n : Nat) : PyData → Prop
  | .str x => x.length ≤ n ∧ ∀ c ∈ x.cps.toList, c < 128
  | .list xs => txAll n xs
  | .tuple xs => txAll n xs
  | _ => True
abbrev tx (n : Nat) (d : PyData) : Prop := txAll.tx n d
theorem txAll_iff {n : Nat} : ∀ {ds : List PyData}, txAll n ds ↔ ∀ d ∈ ds, tx n d
  | [] => ⟨fun _ _ h => (List.not_mem_nil h).elim, fun _ => trivial⟩
  | x :: xs => ⟨fun h d hd => (List.mem_cons.mp hd).elim (fun e => by rw [e]; exact h.1) fun e => txAll_iff.mp h.2 d e, fun h => ⟨h x List.mem_cons_self, txAll_iff.mpr fun d hd => h d (List.mem_cons_of_mem _ hd)⟩⟩
mutual
theorem tx_mono {n k : Nat} (h : n ≤ k) : ∀ d : PyData, tx n d → tx k d
  | .none, _ => trivial
  | .bool _, _ => trivial
  | .int _, _ => trivial
  | .str x, g => ⟨Nat.le_trans g.1 h, g.2⟩
  | .list xs, g => txAll_mono h xs g
  | .tuple xs, g => txAll_mono h xs g
  | .dict _, _ => trivial
theorem txAll_mono {n k : Nat} (h : n ≤ k) : ∀ ds : List PyData, txAll n ds → txAll k ds
  | [], _ => trivial
  | x :: xs, g => ⟨tx_mono h x g.1, txAll_mono h xs g.2⟩
end
structure Bd (n m C D W : Nat) (d : PyData) : Prop where
  t : Th m C D W d
  x : tx n d
structure Bds (n m C D W : Nat) (ds : List PyData) : Prop where
  t : Ths m C D W ds
  x : ∀ d ∈ ds, tx n d
section
variable {n m C D W n' m' C' D' W' : Nat} {d x : PyData} {ds es xs ys : List PyData}
theorem Bd.mono (h : Bd n m C D W d) (a : n ≤ n') (b : m ≤ m') (c : C ≤ C') (e : D ≤ D') (f : W ≤ W') : Bd n' m' C' D' W' d := ⟨h.t.mono b c e f, tx_mono a d h.x⟩
theorem Bds.mono (h : Bds n m C D W ds) (a : n ≤ n') (b : m ≤ m') (c : C ≤ C') (e : D ≤ D') (f : W ≤ W') : Bds n' m' C' D' W' ds := ⟨h.t.mono b c e f, fun d hd => tx_mono a d (h.x d hd)⟩
theorem Bds.nil : Bds n m 0 D W [] := ⟨Ths.nil, fun _ h => (List.not_mem_nil h).elim⟩
theorem Bds.app (h : Bds n m C D W xs) (k : Bds n m C' D W ys) : Bds n m (C + C') D W (xs ++ ys) := ⟨h.t.app k.t, fun d hd => (List.mem_append.mp hd).elim (h.x d) (k.x d)⟩
theorem Bds.one (h : Bd n m C D W x) : Bds n m (C + 2) D W [x] := ⟨Ths.one h.t, fun d hd => by rw [List.mem_singleton.mp hd]; exact h.x⟩
theorem Bds.list (h : Bds n m C D W ds) (l : ds.length ≤ W) : Bd n m (C + 3) (D + 1) W (.list ds) := ⟨h.t.list l, txAll_iff.mpr h.x⟩
theorem Bds.tuple (h : Bds n m C D W ds) (l : ds.length ≤ W) : Bd n m (C + 3) (D + 1) W (.tuple ds) := ⟨h.t.tuple l, txAll_iff.mpr h.x⟩
theorem Bd.parts (h : Bd n m C D W d) (e : d = .list ds ∨ d = .tuple ds) : Bds n m (C - 3) (D - 1) W ds ∧ ds.length ≤ W ∧ 3 ≤ C ∧ 1 ≤ D := by
  obtain ⟨a, b⟩ := h.t.parts e
  refine ⟨⟨a, ?_⟩, b⟩
  rcases e with rfl | rfl
  · exact txAll_iff.mp h.x
  · exact txAll_iff.mp h.x
theorem Bds.take (h : Bds n m C D W ds) (k : Nat) : Bds n m C D W (ds.take k) := ⟨h.t.take k, fun d hd => h.x d (List.mem_of_mem_take hd)⟩
theorem Bds.drop (h : Bds n m C D W ds) (k : Nat) : Bds n m C D W (ds.drop k) := ⟨h.t.drop k, fun d hd => h.x d (List.mem_of_mem_drop hd)⟩
theorem Bds.rev (h : Bds n m C D W ds) : Bds n m C D W ds.reverse := ⟨h.t.rev, fun d hd => h.x d (List.mem_reverse.mp hd)⟩
theorem Bds.set {i : Nat} (h : Bds n m C D W ds) (k : Bd n m C' D W x) : Bds n m (C + C' + 2) D W (ds.set i x) := ⟨h.t.set k.t, fun d hd => (List.mem_or_eq_of_mem_set hd).elim (h.x d) fun e => by rw [e]; exact k.x⟩
theorem Bds.mem (h : Bds n m C D W ds) (e : d ∈ ds) : Bd n m C D W d := ⟨h.t.mem e, h.x d e⟩
theorem bd_int {i : Int} (h : i.natAbs ≤ m) : Bd n m 1921 0 0 (.int i) := ⟨⟨h, Nat.le_refl _, Nat.le_refl _, Nat.le_refl _⟩, trivial⟩
theorem bd_bool (b : Bool) : Bd n m 5 0 0 (.bool b) := ⟨⟨trivial, Nat.le_refl _, Nat.le_refl _, Nat.le_refl _⟩, trivial⟩
theorem bd_none : Bd n m 4 0 0 .none := ⟨⟨trivial, Nat.le_refl _, Nat.le_refl _, Nat.le_refl _⟩, trivial⟩
theorem bd_str {z : Str} (h : z.length ≤ n) (h2 : n ≤ 2000) (c : ∀ x ∈ z.cps.toList, x < 128) : Bd n m (10 * n + 2) 0 0 (.str z) := ⟨⟨⟨Nat.le_trans h h2, fun x hx => Nat.lt_trans (c x hx) (by decide)⟩, by show 10 * z.length + 2 ≤ _; omega, Nat.le_refl _, Nat.le_refl _⟩, h, c⟩
end
theorem text_small {i : Int} (h : i.natAbs < 10 ^ 11) : (Str.ofString (toString i)).length ≤ 12 := by
  rw [PySem.ofString_length]
  exact int_text_length_le10 (k := 11) (by decide) h
theorem text_ascii (i : Int) : ∀ c ∈ (Str.ofString (toString i)).cps.toList, c < 128 := by
  intro c hc
  refine Decidable.byContradiction fun h => ?_
  exact PyProof.Rows.int_text_free' c ⟨by omega, by omega⟩ i hc
theorem cut_small (z : Str) (lo hi : Option Int) : (cutS z lo hi).length ≤ z.length := by
  have := cut_len z lo hi
  have h1 : HT.sIx z.length z.length hi ≤ z.length := HT.sIx_le _ _ (Nat.le_refl _) _
  omega
theorem cut_dp {H : Hp} {xs : List V} {ds : List PyData} {n m C D W : Nat} (da : DpAll K H xs ds) (b : Bds n m C D W ds) (lo hi : Option Int) : ∃ ys es, cutV xs lo hi = ys ∧ DpAll K H ys es ∧ Bds n m C D W es ∧ es.length ≤ ds.length ∧ ys.length = es.length := by
  refine ⟨_, (ds.drop (HT.sIx xs.length 0 lo)).take (HT.sIx xs.length xs.length hi - HT.sIx xs.length 0 lo), rfl, ?_, (b.drop _).take _, ?_, ?_⟩
  · exact dpAll_take _ (dpAll_drop _ da)
  · rw [List.length_take, List.length_drop]; omega
  · exact dpAll_len (dpAll_take _ (dpAll_drop _ da))
theorem cut_one (xs : List V) (a : Nat) : (cutV xs (some (a : Int)) (some ((a : Int) + 1))).length ≤ 1 := by
  unfold cutV
  rw [List.length_take, List.length_drop]
  rw [show ((a : Int) + 1) = ((a + 1 : Nat) : Int) by omega, HT.sIx_nat, HT.sIx_nat]
  omega
theorem str_mem_app {a b : Str} {x : Nat} (h : x ∈ (a ++ b).cps.toList) : x ∈ a.cps.toList ∨ x ∈ b.cps.toList := by
  have e : (a ++ b).cps.toList = a.cps.toList ++ b.cps.toList := Array.toList_append
  rw [e] at h
  exact List.mem_append.mp h
abbrev SqA (K : PySem.W.Frag) (H : Hp) (a : Addr) (xs : List V) : Prop := SqL K H a xs ∨ SqT K H a xs
theorem sq_same {H H' : Hp} {a : Addr} {xs : List V} (s : Same H H') (h : SqA K H a xs) : SqA K H' a xs := h.imp s.seq (same_tup s)
theorem sqa_off {H : Hp} {S : List Addr} {a : Addr} {xs : List V} (h : SqA K (off H S) a xs) : SqA K H a xs := sq_same off_sub h
theorem sqa_len {H : Hp} {a : Addr} {xs : List V} (h : SqA K H a xs) : LenV K (.ref a) H xs.length := h.elim (fun h => .inl ⟨_, h, rfl⟩) (fun h => .inr ⟨_, h, rfl⟩)
end
theorem upper_len {z : Str} (h : ∀ c ∈ z.cps.toList, c < 128) : (Txt.upper z).length = z.length := by
  rw [PyProof.Rows.upper_ascii h]
  show (z.cps.map _).size = z.cps.size
  rw [Array.size_map]
theorem upper_small {z : Str} (h : ∀ c ∈ z.cps.toList, c < 128) : ∀ c ∈ (Txt.upper z).cps.toList, c < 128 := by
  rw [PyProof.Rows.upper_ascii h]
  intro c hc
  have hc : c ∈ z.cps.toList.map PyProof.Rows.up1 := by simpa using hc
  obtain ⟨d, hd, rfl⟩ := List.mem_map.mp hc
  have := h d hd
  unfold PyProof.Rows.up1
  split <;> omega
theorem log_smallW {i : Int} (h : i.natAbs ≤ 10 ^ 12) : i.natAbs.log2 < 1920 := by
  by_cases z : i.natAbs = 0
  · rw [z]; decide
  · have := (Nat.log2_lt z).mpr (show i.natAbs < 2 ^ 40 from Nat.lt_of_le_of_lt h (by decide))
    omega
mutual
theorem gd_fineW {m : Nat} (h : m ≤ 10 ^ 12) : ∀ d : PyData, gd m d → fineAll.fine d
  | .none, _ => trivial
  | .bool _, _ => trivial
  | .int i, g => log_smallW (Nat.le_trans g h)
  | .str _, g => fun c hc => Nat.lt_trans (g.2 c hc) (by decide)
  | .list xs, g => gdAll_fineW h xs g
  | .tuple xs, g => gdAll_fineW h xs g
  | .dict _, g => g.elim
theorem gdAll_fineW {m : Nat} (h : m ≤ 10 ^ 12) : ∀ ds : List PyData, gdAll m ds → fineAll ds
  | [], _ => trivial
  | x :: xs, g => ⟨gd_fineW h x g.1, gdAll_fineW h xs g.2⟩
end
theorem Nm.ascii {z : Str} (h : Nm z) : ∀ c ∈ z.cps.toList, c < 128 := fun c hc => by have := (h.1.2 c hc).2; omega
theorem ascii_of {s : String} (h : (Str.ofString s).cps.toList.all (fun c => decide (c < 128)) = true) : ∀ c ∈ (Str.ofString s).cps.toList, c < 128 := fun c hc => of_decide_eq_true (List.all_eq_true.mp h c hc)
theorem ascii_app {a b : Str} (h1 : ∀ x ∈ a.cps.toList, x < 128) (h2 : ∀ x ∈ b.cps.toList, x < 128) : ∀ x ∈ (a ++ b).cps.toList, x < 128 := fun x hx => (str_mem_app hx).elim (h1 x) (h2 x)
theorem ascii_cut {z : Str} (h : ∀ x ∈ z.cps.toList, x < 128) (lo hi : Option Int) : ∀ x ∈ (cutS z lo hi).cps.toList, x < 128 := fun x hx => h x (cut_mem hx)
end Pot

namespace Pot
open PySem PySem.Spec PyProof.Rows L2
/-! ### xs[::step], the step 1 or -1, worked out -/
def tStepL (K : PySem.W.Frag) (te ts : TE) : TE := fun σ H Q => te σ H fun x H1 => tPart ts σ H1 fun o H2 => ∃ i : Int, o = some i ∧ ∃ (a : Addr) (xs : List V), x = .ref a ∧ (i = 1 ∨ i = -1) ∧ SqL K H2 a xs ∧ ∀ p, H2 p = none → Q (.ref p) (upd H2 p (.lst (if i = 1 then xs else xs.reverse)))
section
variable {X : Cx} {K : PySem.W.Frag}
theorem pe_stepL0 {e st : Expr} {te ts : TE} {p3 pos : Pos} (he : PE X e te) (hs : PE X st ts) : PE X (.Subscript e (.Slice none none (some st) p3) pos) (tStepL X.K te ts) := by
  refine ⟨fun pins s σ H Q I h => ?_⟩
  refine Subscript_ (thn (he.run pins s σ H _ I h) fun v s1 ⟨x, H1, I1, r1, q1⟩ => ?_)
  have hst : PO X (some st) (tPart ts) := po_some hs
  refine wpAny_Slice (thn (po_none.run pins s1 σ H1 (fun o H2 => o = none ∧ H2 = H1) I1 ⟨rfl, rfl⟩) fun vl s2 ⟨l, H2, I2, pl, el, e2⟩ => ?_)
  subst el e2
  refine thn (po_none.run pins s2 σ H2 (fun o H3 => o = none ∧ H3 = H2) I2 ⟨rfl, rfl⟩) fun vu s3 ⟨u, H3, I3, pu, eu, e3⟩ => ?_
  subst eu e3
  refine thn (hst.run pins s3 σ H3 _ I3 q1) fun vs s4 ⟨o, H4, I4, ps, i, eo, a, xs, ex, hi, hx, q⟩ => ?_
  subst eo ex
  cases r1
  have I5 : Inv X pins σ H4 { s4 with heap := s4.heap.push { cls := .type "slice", data := .fields #[vl, vu, vs] } } := I4.kept (t' := s4.toks) fun b ob q => Heap.get?_push_of_some _ q
  obtain ⟨its, r, ht, hz⟩ := I5.list hx
  have hlen := r.length
  show wpAny (model X.prog X.w) X.A (subscriptTail e (.Slice none none (some st) p3) (.ref a) (.ref s4.heap.objs.size)) (EP X pins σ Q) X.xe { s4 with heap := s4.heap.push { cls := .type "slice", data := .fields #[vl, vu, vs] } }
  refine tail_any (ops := [.ref a, .ref s4.heap.objs.size]) ht.isList.typeIs (PySem.slot_list_getitem.lookup) ?_ (by with_unfolding_all rfl)
  refine wpAny_getItem_list_slice ht.isList (Heap.IsSliceOf.new _ vl vu vs) pl pu ps (by rcases hi with rfl | rfl <;> decide) ?_ (by rw [List.size_toArray]; omega)
  rcases hi with rfl | rfl
  · have e1 : slicePick its.toArray none none (some 1) = its.toArray := by
      exact slicePick_all its.toArray
    rw [e1]
    have q := q _ (I5.hok.fresh (Nat.le_refl _))
    rw [if_pos rfl] at q
    refine ⟨.ref _, _, I5.laid (t' := s4.toks) (o := .lst xs) (fun b ob q => Heap.get?_push_of_some _ q) (Nat.le_refl _) ?_, rfl, q⟩
    exact ⟨hz, _, 0, r, Heap.get?_push_size _ rfl⟩
  · rw [PySem.W.krv_pick]
    have q := q _ (I5.hok.fresh (Nat.le_refl _))
    rw [if_neg (by decide)] at q
    refine ⟨.ref _, _, I5.laid (t' := s4.toks) (o := .lst xs.reverse) (fun b ob q => Heap.get?_push_of_some _ q) (Nat.le_refl _) ?_, rfl, q⟩
    exact ⟨by rw [List.length_reverse]; exact hz, _, 0, r.reverse, Heap.get?_push_size _ rfl⟩
theorem pe_stepL {e st : Expr} {te ts : TE} {p3 pos : Pos} (he : PE X e te) (hs : PE X st ts) (h : X.K = K := by rfl) : PE X (.Subscript e (.Slice none none (some st) p3) pos) (tStepL K te ts) := h ▸ pe_stepL0 he hs
end
end Pot

namespace Pot
open PySem PySem.Spec PyProof.Rows L2
/-! ### str of a list or a tuple of any data -/
section
variable {X : Cx} {K : PySem.W.Frag}
def rStrA (K : PySem.W.Frag) : List V → Hp → VK → Prop := fun xs H Q => ∃ (a : Addr) (d : PyData), xs = [.ref a] ∧ Dp K H (.ref a) d ∧ fineAll.fine d ∧ d.depth ≤ 60 ∧ costAll.cost d ≤ 16777216 ∧ Q (.str d.shown) H
theorem cr_strA (gd : X.A.guards = some []) (hu : X.A.units + 64 < cLine) : CallR X (.type "str") (rStrA X.K) := by
  intro pins s σ H vs us Q I r h
  obtain ⟨a, d, rfl, dp, sh, dep, sz, q⟩ := h
  obtain ⟨u, rfl, rx⟩ := vals1 r
  have sz2 := Nat.le_trans (shown_len d sh) (by rw [sizeLine_eq]; exact sz : costAll.cost d ≤ sizeLine)
  cases rx
  obtain ⟨as, rd⟩ := Dp.reads I d (.ref a) (.ref a) dp rfl
  refine str_of_reads rd (fine_show d sh) (fun z => ?_) gd (by omega) (fun _ _ e => e) (fun h' u tk k => ⟨.str d.shown, H, I.kept k, ⟨u, rfl⟩, q⟩) sz2
  rw [dp_noDict dp] at z
  cases z
theorem kc_strA (gd : X.A.guards = some []) (hu : X.A.units + 64 < cLine) (h : X.K = K := by rfl) : CallR X (.type "str") (rStrA K) := h ▸ cr_strA gd hu
end
end Pot

namespace Pot
open PySem PySem.Spec PyProof.Rows L2
/-! ### lists and tuples alike: slices, sums, places -/
section
variable {X : Cx} {K : PySem.W.Frag}
def rSlS' (K : PySem.W.Frag) : V → Option Int → Option Int → Hp → VK → Prop := fun x lo hi H Q => rSlL K x lo hi H Q ∨ rSlA K x lo hi H Q
theorem kl_any (h : X.K = K := by rfl) : SlR X (rSlS' K) := h ▸ SlR.or sl_list sl_tupA
def rCatS' (K : PySem.W.Frag) : R2 := fun x y H Q => rCat x y H Q ∨ rCatA K x y H Q
theorem ko_catS (h : X.K = K := by rfl) : OpR X (binaryOp .Add) (rCatS' K) := h ▸ OpR.or op_cat op_catA
def rIxS' (K : PySem.W.Frag) : R2 := fun x y H Q => rIxL K x y H Q ∨ rIxT K x y H Q
theorem kx_any (h : X.K = K := by rfl) : IxR X (rIxS' K) := h ▸ IxR.or ix_list ix_tup
end
/-- a list's or a tuple's data -/
def seqD (t : Bool) (ds : List PyData) : PyData := if t = true then .tuple ds else .list ds
theorem seqD_t (ds : List PyData) : seqD true ds = .tuple ds := rfl
theorem seqD_l (ds : List PyData) : seqD false ds = .list ds := rfl
theorem seqD_or (t : Bool) (ds : List PyData) : seqD t ds = .list ds ∨ seqD t ds = .tuple ds := by cases t; exact .inl rfl; exact .inr rfl
theorem seqD_tup (t : Bool) (ds : List PyData) : isTupD (seqD t ds) = t := by cases t <;> rfl
theorem seqD_seq (t : Bool) (ds : List PyData) : (isListD (seqD t ds) || isTupD (seqD t ds)) = true := by cases t <;> rfl
def cutL (ds : List PyData) (lo hi : Option Int) : List PyData := (ds.drop (HT.sIx ds.length 0 lo)).take (HT.sIx ds.length ds.length hi - HT.sIx ds.length 0 lo)
theorem cutL_le (ds : List PyData) (lo hi : Option Int) : (cutL ds lo hi).length ≤ ds.length := by
  unfold cutL
  rw [List.length_take, List.length_drop]; omega
theorem cutL_head (ds : List PyData) (a : Nat) : cutL ds none (some (a : Int)) = ds.take a := by
  unfold cutL
  rw [HT.sIx_nat]
  show (ds.drop 0).take (min a ds.length - 0) = _
  rw [List.drop_zero, Nat.sub_zero]
  rcases Nat.le_total a ds.length with h | h
  · rw [Nat.min_eq_left h]
  · rw [Nat.min_eq_right h, List.take_length, List.take_of_length_le h]
theorem cutL_tail (ds : List PyData) (a : Nat) : cutL ds (some (a : Int)) none = ds.drop a := by
  unfold cutL
  rw [HT.sIx_nat]
  show (ds.drop (min a ds.length)).take (ds.length - min a ds.length) = _
  rcases Nat.le_total a ds.length with h | h
  · rw [Nat.min_eq_left h, List.take_of_length_le (by rw [List.length_drop]; exact Nat.le_refl _)]
  · rw [Nat.min_eq_right h, List.drop_length, List.drop_of_length_le h, List.take_nil]
/-- a value that is a list of its own or a tuple -/
def SeqV (K : PySem.W.Frag) (H : Hp) (t : Bool) (y : V) (ds : List PyData) : Prop := ∃ a xs, y = .ref a ∧ DpAll K H xs ds ∧ (if t = true then SqT K H a xs else H a = some (.lst xs))
section
variable {K : PySem.W.Frag} {H H' : Hp} {S : List Addr} {t : Bool} {x y : V} {ds es : List PyData} {lo hi : Option Int} {Q : VK}
theorem SeqV.dp (h : SeqV K H t y ds) : Dp K H y (seqD t ds) := by
  obtain ⟨a, xs, rfl, da, hs⟩ := h
  cases t with
  | true => exact .tup hs da
  | false => exact .lst (SqL.of hs) da
theorem SeqV.same (s : Same H H') (h : SeqV K H t y ds) : SeqV K H' t y ds := by
  obtain ⟨a, xs, rfl, da, hs⟩ := h
  refine ⟨a, xs, rfl, dpAll_same s da, ?_⟩
  cases t with
  | true => exact same_tup s hs
  | false => exact s _ _ hs
theorem sl_seq (lv : Live S H) (d : Dp K (off H S) x (seqD t ds)) (q : ∀ H' y, Same H H' → SeqV K (off H' S) t y (cutL ds lo hi) → Q y H') : rSlS' K x lo hi H Q := by
  cases t with
  | true =>
    obtain ⟨a, xs, rfl, hs, da⟩ := dp_tup d
    have lx := dpAll_len da
    refine .inr ⟨a, xs, rfl, sqt_off hs, fun h => ?_, fun h p np => ?_⟩
    · refine q _ _ (Same.refl _) ⟨a, xs, rfl, ?_, hs⟩
      have e : cutL ds lo hi = ds := by
        unfold cutL
        rw [lx] at h
        rw [h.1, h.2, List.drop_zero, Nat.sub_zero, List.take_length]
      rw [e]; exact da
    · refine q _ _ (same_upd np) ⟨p, _, rfl, ?_, .inl (.inl (off_new lv np))⟩
      unfold cutL
      rw [← lx]
      exact dpAll_same (sm_put np) (dpAll_take _ (dpAll_drop _ da))
  | false =>
    obtain ⟨a, xs, rfl, hs, da⟩ := dp_lst d
    have lx := dpAll_len da
    refine .inl ⟨a, xs, rfl, sq_off hs, fun p np => ?_⟩
    refine q _ _ (same_upd np) ⟨p, _, rfl, ?_, off_new lv np⟩
    unfold cutL
    rw [← lx]
    exact dpAll_same (sm_put np) (dpAll_take _ (dpAll_drop _ da))
theorem cat_seq (lv : Live S H) (d : SeqV K (off H S) t x ds) (e : SeqV K (off H S) t y es) (l : ds.length + es.length ≤ sizeLine) (q : ∀ H' z, Same H H' → SeqV K (off H' S) t z (ds ++ es) → Q z H') : rCatS' K x y H Q := by
  obtain ⟨a, xs, rfl, da, hs⟩ := d
  obtain ⟨b, ys, rfl, db, ht⟩ := e
  have lx := dpAll_len da
  have ly := dpAll_len db
  cases t with
  | true =>
    have hs : SqT K (off H S) a xs := hs
    have ht : SqT K (off H S) b ys := ht
    refine .inr ⟨a, b, xs, ys, rfl, rfl, sqt_off hs, sqt_off ht, by rw [lx, ly]; exact l, fun z => ?_, fun z z2 => ?_, fun z z2 p np => ?_⟩
    · refine q _ _ (Same.refl _) ⟨b, ys, rfl, ?_, ht⟩
      have : ds = [] := List.length_eq_zero_iff.mp (by rw [← lx, z]; rfl)
      rw [this]; exact db
    · refine q _ _ (Same.refl _) ⟨a, xs, rfl, ?_, hs⟩
      have : es = [] := List.length_eq_zero_iff.mp (by rw [← ly, z2]; rfl)
      rw [this, List.append_nil]; exact da
    · exact q _ _ (same_upd np) ⟨p, _, rfl, dpAll_same (sm_put np) (dpAll_app' da db), .inl (.inl (off_new lv np))⟩
  | false =>
    have hs : off H S a = some (.lst xs) := hs
    have ht : off H S b = some (.lst ys) := ht
    exact .inl ⟨a, b, xs, ys, rfl, rfl, at_off hs, at_off ht, by rw [lx, ly]; exact l, fun p np => q _ _ (same_upd np) ⟨p, _, rfl, dpAll_same (sm_put np) (dpAll_app' da db), off_new lv np⟩⟩
theorem ix_seqV {i : Nat} {d : PyData} (h : Dp K (off H S) x (seqD t ds)) (g : ds[i]? = some d) (q : ∀ y, Dp K (off H S) y d → Q y H) : rIxS' K x (.int (i : Nat)) H Q := by
  cases t with
  | true =>
    obtain ⟨a, xs, rfl, hs, da⟩ := dp_tup h
    have lx := dpAll_len da
    have hi : i < xs.length := by rw [lx]; exact (List.getElem?_eq_some_iff.mp g).1
    obtain ⟨d2, g2, dp⟩ := dpAll_at da (List.getElem?_eq_getElem hi)
    rw [g] at g2
    cases g2
    exact .inr ⟨a, xs, _, _, rfl, rfl, sqt_off hs, atI_nat (List.getElem?_eq_getElem hi), q _ dp⟩
  | false =>
    obtain ⟨a, xs, rfl, hs, da⟩ := dp_lst h
    have lx := dpAll_len da
    have hi : i < xs.length := by rw [lx]; exact (List.getElem?_eq_some_iff.mp g).1
    obtain ⟨d2, g2, dp⟩ := dpAll_at da (List.getElem?_eq_getElem hi)
    rw [g] at g2
    cases g2
    exact .inl ⟨a, xs, _, _, rfl, rfl, sq_off hs, atI_nat (List.getElem?_eq_getElem hi), q _ dp⟩
theorem len_seq (h : Dp K (off H S) x (seqD t ds)) : LenV K x H ds.length := by
  cases t with
  | true =>
    obtain ⟨a, xs, rfl, hs, da⟩ := dp_tup h
    rw [← dpAll_len da]
    exact .inr ⟨_, sqt_off hs, rfl⟩
  | false =>
    obtain ⟨a, xs, rfl, hs, da⟩ := dp_lst h
    rw [← dpAll_len da]
    exact .inl ⟨_, sq_off hs, rfl⟩
end
section
variable {n m C D W : Nat} {ds : List PyData}
theorem Bds.cut (h : Bds n m C D W ds) (lo hi : Option Int) : Bds n m C D W (cutL ds lo hi) := (h.drop _).take _
theorem Bd.seq {t : Bool} (h : Bd n m C D W (seqD t ds)) : Bds n m C (D - 1) W ds ∧ ds.length ≤ W := by
  obtain ⟨a, b, c, d⟩ := h.parts (seqD_or t ds)
  exact ⟨a.mono (Nat.le_refl _) (Nat.le_refl _) (Nat.sub_le _ _) (Nat.le_refl _) (Nat.le_refl _), b⟩
theorem Bds.seq {t : Bool} (h : Bds n m C D W ds) (l : ds.length ≤ W) : Bd n m (C + 3) (D + 1) W (seqD t ds) := by
  cases t
  · exact h.list l
  · exact h.tuple l
end
end Pot

namespace Pot
open PySem PySem.Spec PyProof.Rows L2
def topS (i : Nat) : Stmt := PySem.Challenge.pw_potround_k51_cooled_spoilt_anywhere.main.body.getD i (.Pass ⟨0, 0, 0, 0⟩)
section
variable {P : Program} {w : World} {K : PySem.W.Frag} {mg : Str → Option Value} {base : Heap}
abbrev s__law_take : Stmt := topS 18
def n__law_take : List Str := ["_law_state", "_law_many", "_law_digit", "_law_low", "_law_high", "_law_turn", "_law_once", "_law_twice"]
theorem sc__law_take : FnScope n__law_take ["_law_state", "_law_many"] (defScope s__law_take) := ⟨rfl, rfl, rfl, by decide +kernel, rfl, by decide +kernel, by decide +kernel⟩
/-! ### _law_take -/
def spTake : Sp := fun vs H Q _ => ∃ (b : Addr) (m : Int) (n : Nat), vs = [.ref b, .int m] ∧ 0 < m ∧ m < 1073741824 ∧ Bq H b n ∧ n < 2 ^ 40 ∧
  ∀ H' r, 0 ≤ r → r < m → Bq H' b (n + 1) → Sm [b] H H' → Q (.int r) H'
theorem ok_take {f : Addr} {fd : FuncData} {k : Nat} (F : Fun K "_law_take" "_law_take" s__law_take f fd) (T : Txt mg) :
    FnOk P w K mg base CX0 (k + 1) f fd ["_law_state", "_law_many"] spTake := by
  refine F.ok sc__law_take (fun vs H Q E h => ?_) (fun cdv A outer s H vs Q E hr h => ?_)
  · obtain ⟨b, m, n, rfl, _⟩ := h
    rfl
  · obtain ⟨b, m, n, rfl, hm0, hm1, ⟨x, y, z, B, z0, zn⟩, hn, q⟩ := h
    have nd := sc__law_take.nd
    refine ⟨_, (pss_cons (ps_if (pt_cmpR op_gt (pe_ix (kx_list (K := K)) (pv 0) pe_int (fun _ _ => rfl)) pe_int (nomark _))
          (pss_cons (ps_asg (pe_callB call_divmod (by rfl) T.divmod (by decide +kernel) (pa_cons (pe_ix (kx_list (K := K)) (pv 0) pe_int (fun _ _ => rfl)) (pa_cons (pv 1) pa_nil))) (kg_tup (K := K) (n := 2) (pgs_cons (pg_sub (pv 0) pe_int set_list) (pgs_cons (pg_name (i := 2) nd rfl (.inl rfl)) pgs_nil))))
          (pss_one (ps_ret (pv 2))))
          pss_nil)
      (pss_cons (ps_asg (pe_op op_add (pe_ix (kx_list (K := K)) (pv 0) pe_int (fun _ _ => rfl)) pe_int) (pg_sub (pv 0) pe_int set_list))
      (pss_cons (ps_par3 (i := 3) (j := 4) (l := 5) rfl nd rfl rfl rfl (by decide) (by decide) (by decide) rfl rfl rfl (pa_cons (pe_op op_mod (pe_ix (kx_list (K := K)) (pv 0) pe_int (fun _ _ => rfl)) pe_int) (pa_cons (pe_op op_fdivW (pe_ix (kx_list (K := K)) (pv 0) pe_int (fun _ _ => rfl)) pe_int) (pa_cons (pe_ix (kx_list (K := K)) (pv 0) pe_int (fun _ _ => rfl)) pa_nil))) rfl)
      (pss_cons (ps_set (i := 6) nd rfl (.inl rfl) (pe_op op_mod (pe_op op_mul (pe_op op_add (pe_op op_add (pv 3) (pe_op op_mul (pe_op op_mul (pv 5) (pv 5)) pe_int)) pe_int) pe_int) pe_int))
      (pss_cons (ps_set (i := 7) nd rfl (.inl rfl) (pe_op op_mod (pe_op op_add (pe_op op_add (pe_op op_mul (pv 6) (pe_op op_add (pe_op op_mod (pv 6) pe_int) pe_int)) (pv 4)) (pv 5)) pe_int))
      (pss_one (ps_ret (pe_op op_mod (pe_op op_fdiv (pe_op op_mod (pe_op op_add (pe_op op_mul (pv 7) pe_int) (pv 6)) pe_int) pe_int) (pv 1))))))))), ?_⟩
    refine ⟨_, rfl, b, _, 0, .int x, rfl, rfl, SqL.of B, rfl, _, _, rfl, rfl, _, rfl, ite2 (fun hb => ?_) (fun hb => ?_)⟩
    · refine ⟨_, rfl, b, _, 0, .int x, rfl, rfl, SqL.of B, rfl, _, rfl, _, _, rfl, ⟨hm0, hm1⟩, fun p np => ?_⟩
      have nb : b ≠ p := ne_of_none B np
      have B1 : upd H p (.tup [.int (x / m), .int (x % m)]) b = some (.lst [.int x, .int y, .int z]) := by rw [upd_ne nb]; exact B
      refine ⟨p, _, rfl, .inl (.inl upd_same), rfl, _, _, rfl, _, rfl, b, _, 0, 0, rfl, rfl, B1, rfl, ?_⟩
      refine ⟨_, _, rfl, rfl, _, rfl, ?_⟩
      exact q _ _ (Int.emod_nonneg _ (by omega)) (Int.emod_lt_of_pos _ hm0) ⟨_, _, _, upd_same, z0, by omega⟩ ((sm_put np).trans (sm_wr List.mem_cons_self))
    · refine ⟨_, rfl, b, _, 2, .int z, rfl, rfl, SqL.of B, rfl, _, _, rfl, rfl, _, rfl, b, _, 2, 2, rfl, rfl, B, rfl, ?_⟩
      have B2 : upd H b (.lst [.int x, .int y, .int (z + 1)]) b = some (.lst [.int x, .int y, .int (z + 1)]) := upd_same
      have s2 : Sm [b] H (upd H b (.lst [.int x, .int y, .int (z + 1)])) := sm_wr List.mem_cons_self
      show tSeq _ _ _ _ (upd H b (.lst [.int x, .int y, .int (z + 1)]))
      generalize upd H b (.lst [.int x, .int y, .int (z + 1)]) = H2 at B2 s2 ⊢
      have t2 : z + 1 < 2 ^ 41 := by omega
      refine ⟨_, rfl, b, _, 1, .int y, rfl, rfl, SqL.of B2, rfl, _, _, rfl, rfl, (by show (0 : Int) < 2147483629; decide), ?_⟩
      refine ⟨_, rfl, b, _, 1, .int y, rfl, rfl, SqL.of B2, rfl, _, _, rfl, rfl, CDivW.of (by decide) (by decide), ?_⟩
      refine ⟨_, rfl, b, _, 2, .int (z + 1), rfl, rfl, SqL.of B2, rfl, _, _, _, rfl, ?_⟩
      refine ⟨_, rfl, _, rfl, _, rfl, _, _, rfl, rfl, .inl ⟨by omega, by omega⟩, _, _, rfl, rfl, .inr ⟨by decide, by decide⟩, _, _, rfl, rfl, _, _, rfl, rfl, _, _, rfl, rfl, .inr ⟨by decide, by decide⟩, _, _, rfl, rfl, (by show (0 : Int) < 2147483647; decide), ?_⟩
      refine ⟨_, rfl, _, rfl, _, _, rfl, rfl, (by show (0 : Int) < 30011; decide), _, _, rfl, rfl, _, _, rfl, rfl, cmul_mod _ _ (by decide) (by decide), _, rfl, _, _, rfl, rfl, _, rfl, _, _, rfl, rfl, _, _, rfl, rfl, (by show (0 : Int) < 2147483587; decide), ?_⟩
      refine ⟨_, rfl, _, _, rfl, rfl, .inr ⟨by decide, by decide⟩, _, rfl, _, _, rfl, rfl, _, _, rfl, rfl, (by show (0 : Int) < 2147483629; decide), _, _, rfl, rfl, ⟨by decide, by decide⟩, _, rfl, _, _, rfl, rfl, hm0, ?_⟩
      exact q _ _ (Int.emod_nonneg _ (by omega)) (Int.emod_lt_of_pos _ hm0) ⟨_, _, _, B2, by omega, by omega⟩ s2

abbrev s__law_begin : Stmt := topS 17
def n__law_begin : List Str := ["_law_script", "_law_k", "_law_cell"]
theorem sc__law_begin : FnScope n__law_begin ["_law_script", "_law_k"] (defScope s__law_begin) := ⟨rfl, rfl, rfl, by decide +kernel, rfl, by decide +kernel, by decide +kernel⟩
/-! ### _law_begin -/
def spBegin (K : PySem.W.Frag) : Sp := fun vs H Q _ => ∃ (a : Addr) (ns : List Int) (k : Nat), vs = [.ref a, .int (k : Nat)] ∧ SqL K H a (ns.map V.int) ∧ k ≤ 63 ∧ ∀ H' b, Same H H' → Bq H' b 0 → H b = none → Q (.ref b) H'
theorem ok_begin {f : Addr} {fd : FuncData} {k : Nat} (F : Fun K "_law_begin" "_law_begin" s__law_begin f fd) (T : Txt mg) : FnOk P w K mg base CX0 (k + 1) f fd ["_law_script", "_law_k"] (spBegin K) := by
  refine F.ok sc__law_begin (fun vs H Q E h => ?_) (fun cdv A outer s H vs Q E hr h => ?_)
  · obtain ⟨a, ns, k, rfl, _⟩ := h
    rfl
  · obtain ⟨a, ns, k, rfl, hS, h63, q⟩ := h
    have nd := sc__law_begin.nd
    refine ⟨_, (pss_cons (ps_set (i := 2) nd rfl (.inl rfl) (pe_ifExp (pt_cmpR op_lt (pv 1) (pe_callB (kc_len (K := K)) (by rfl) T.len PySem.boot_len (pa_cons (pv 0) pa_nil)) (nomark _)) (pe_ix (kx_list (K := K)) (pv 0) (pv 1) (fun _ _ => rfl)) pe_int))
      (pss_one (ps_ret (pe_lst (pa_cons (pe_op op_mul (pe_callB call_abs (by rfl) T.abs (by decide +kernel) (pa_cons (pv 2) pa_nil)) (pe_callTy call_int1 (by rfl) T.int (by decide +kernel) (pa_cons (pe_cmpR op_ge (pe_callB call_abs (by rfl) T.abs (by decide +kernel) (pa_cons (pv 2) pa_nil)) (pe_op op_pow pe_int pe_int) (nomark _)) pa_nil))) (pa_cons (pe_op op_add (pe_op op_add (pe_op op_mod (pe_callB call_abs (by rfl) T.abs (by decide +kernel) (pa_cons (pv 2) pa_nil)) (pe_op op_pow pe_int pe_int)) (pe_op op_mul pe_int (pv 1))) (pe_callTy call_int1 (by rfl) T.int (by decide +kernel) (pa_cons (pe_cmpR op_lt (pv 2) pe_int (nomark _)) pa_nil))) (pa_cons pe_int pa_nil))))))), ?_⟩
    refine ⟨_, rfl, _, rfl, _, _, rfl, .inl ⟨_, hS, rfl⟩, _, _, rfl, rfl, _, rfl, ite2 (fun hb => ?_) (fun hb => ?_)⟩
    · have hk : k < ns.length := by have := of_decide_eq_true hb; rw [List.length_map] at this; omega
      refine ⟨_, rfl, _, rfl, a, _, _, _, rfl, rfl, hS, atI_nat (by rw [List.getElem?_map, List.getElem?_eq_getElem hk]; rfl), ?_⟩
      refine ⟨_, rfl, _, rfl, _, rfl, _, rfl, _, _, rfl, rfl, ⟨by decide, by decide, by decide⟩, _, _, rfl, rfl, .inr ⟨_, rfl, _, _, rfl, rfl, .inr (b01 _), ?_⟩⟩
      refine ⟨_, rfl, _, rfl, _, _, rfl, rfl, ⟨by decide, by decide, by decide⟩, _, _, rfl, rfl, (by show (0 : Int) < 10 ^ 40; decide), _, rfl, _, _, rfl, rfl, .inl ⟨by decide, by decide⟩, _, _, rfl, rfl, _, rfl, _, _, rfl, rfl, .inr ⟨_, rfl, _, _, rfl, rfl, (by show 3 ≤ sizeLine; decide), fun p np => ?_⟩⟩
      exact q _ _ (same_upd np) ⟨_, _, _, upd_same, Int.le_refl _, Int.le_refl _⟩ np
    · skip
      refine ⟨_, rfl, _, rfl, _, rfl, _, rfl, _, _, rfl, rfl, ⟨by decide, by decide, by decide⟩, _, _, rfl, rfl, .inr ⟨_, rfl, _, _, rfl, rfl, .inr (b01 _), ?_⟩⟩
      refine ⟨_, rfl, _, rfl, _, _, rfl, rfl, ⟨by decide, by decide, by decide⟩, _, _, rfl, rfl, (by show (0 : Int) < 10 ^ 40; decide), _, rfl, _, _, rfl, rfl, .inl ⟨by decide, by decide⟩, _, _, rfl, rfl, _, rfl, _, _, rfl, rfl, .inr ⟨_, rfl, _, _, rfl, rfl, (by show 3 ≤ sizeLine; decide), fun p np => ?_⟩⟩
      exact q _ _ (same_upd np) ⟨_, _, _, upd_same, Int.le_refl _, Int.le_refl _⟩ np

end
end Pot

namespace Pot
open PySem PySem.Spec PyProof.Rows L2
section
variable {P : Program} {w : World} {K : PySem.W.Frag} {mg : Str → Option Value} {base : Heap}
abbrev Pc := Int × Int
def pc0 : Pc := (0, 0)
def pcD (p : Pc) : PyData := .tuple [.int p.1, .int p.2]
def inB (p : Pc) (h : Int) : Bool := decide (p.1 ≤ h) && decide (h < p.1 + p.2)
def hereN (ps : List Pc) (h : Int) (i : Nat) : List Nat := (List.range i).filter fun k => inB (ps.getD k pc0) h
def natV (k : Nat) : V := .int ((k : Nat) : Int)
def hereF (ps : List Pc) (h : Int) : List Int := (hereN ps h ps.length).map fun k => ((k : Nat) : Int)
theorem hereN_yes {ps : List Pc} {h : Int} {i : Nat} (e : inB (ps.getD i pc0) h = true) : hereN ps h (i + 1) = hereN ps h i ++ [i] := by
  unfold hereN
  rw [List.range_succ, List.filter_append, List.filter_cons_of_pos (p := fun k => inB (ps.getD k pc0) h) e]; rfl
theorem hereN_no {ps : List Pc} {h : Int} {i : Nat} (e : inB (ps.getD i pc0) h = false) : hereN ps h (i + 1) = hereN ps h i := by
  unfold hereN
  rw [List.range_succ, List.filter_append, List.filter_cons_of_neg (p := fun k => inB (ps.getD k pc0) h) (by rw [e]; exact Bool.false_ne_true), List.filter_nil, List.append_nil]
theorem hereN_len (ps : List Pc) (h : Int) (i : Nat) : (hereN ps h i).length ≤ i := by
  have := List.length_filter_le (fun k => inB (ps.getD k pc0) h) (List.range i)
  rw [List.length_range] at this; exact this
theorem hereF_len (ps : List Pc) (h : Int) : (hereF ps h).length ≤ ps.length := by
  unfold hereF
  rw [List.length_map]; exact hereN_len ..
theorem hereF_map (ps : List Pc) (h : Int) : (hereN ps h ps.length).map natV = (hereF ps h).map V.int := by
  unfold hereF natV
  rw [List.map_map]; rfl
def stepM (ps : List Pc) (b : Int × Option Int) (h : Int) : Int × Option Int := if b.1 < ((hereF ps h).length : Int) then (((hereF ps h).length : Int), some h) else b
def bestF (ps : List Pc) (zs : List Int) : Int × Option Int := zs.foldl (stepM ps) (0, none)
theorem bestF_one {ps : List Pc} {zs : List Int} {i : Nat} {z : Int} (g : zs[i]? = some z) : bestF ps (zs.take (i + 1)) = stepM ps (bestF ps (zs.take i)) z := by
  unfold bestF
  rw [List.take_add_one, g, List.foldl_append]; rfl
def opV : Option Int → V
  | none => .non
  | some h => .int h
def opD : Option Int → PyData
  | none => .none
  | some h => .int h
theorem dp_op {H : Hp} (o : Option Int) : Dp K H (opV o) (opD o) := by
  cases o with
  | none => exact .non
  | some h => exact .int h
def bestD (b : Int × Option Int) : PyData := .tuple [.int b.1, opD b.2]
theorem best_dp {H : Hp} {t : Addr} {b : Int × Option Int} (h : SqT K H t [.int b.1, opV b.2]) : Dp K H (.ref t) (bestD b) := .tup h (.cons (.int _) (.cons (dp_op _) .nil))
def HoursOk (ps : List Pc) (zs : List Int) : Prop := zs.Pairwise (· < ·) ∧ ∀ k, k ∈ zs ↔ k ∈ ps.map (·.1)
theorem hours_uniq {ps : List Pc} {zs ys : List Int} (h1 : HoursOk ps zs) (h2 : HoursOk ps ys) : zs = ys := sorted_uniq h1.1 h2.1 fun k => by rw [h1.2 k, h2.2 k]
theorem pc_dp {H : Hp} {v : V} {p : Pc} (h : Dp K H v (pcD p)) : ∃ a, v = .ref a ∧ SqT K H a [.int p.1, .int p.2] := by
  obtain ⟨a, xs, rfl, hs, ha⟩ := dp_tup h
  obtain ⟨x, y, rfl, h1, h2⟩ := dp_two ha
  rw [dp_int h1, dp_int h2] at hs
  exact ⟨a, rfl, hs⟩
theorem pcs_at {H : Hp} {xs : List V} {ps : List Pc} (h : DpAll K H xs (ps.map pcD)) {i : Nat} {v : V} (g : xs[i]? = some v) : ∃ a, v = .ref a ∧ SqT K H a [.int (ps.getD i pc0).1, .int (ps.getD i pc0).2] ∧ i < ps.length ∧ Dp K H v (pcD (ps.getD i pc0)) := by
  obtain ⟨d, gd, dp⟩ := dpAll_at h g
  rw [List.getElem?_map] at gd
  obtain ⟨p, gp, rfl⟩ := Option.map_eq_some_iff.mp gd
  have e : ps.getD i pc0 = p := by rw [List.getD_eq_getElem?_getD, gp]; rfl
  rw [e]
  obtain ⟨a, rfl, hs⟩ := pc_dp dp
  exact ⟨a, rfl, hs, (List.getElem?_eq_some_iff.mp gp).1, dp⟩

abbrev s_out_at : Stmt := topS 7
def n_out_at : List Str := ["piece", "come", "cool"]
theorem sc_out_at : FnScope n_out_at ["piece"] (defScope s_out_at) := ⟨rfl, rfl, rfl, by decide +kernel, rfl, by decide +kernel, by decide +kernel⟩
def spOut (K : PySem.W.Frag) : Sp := fun vs H Q _ => ∃ (a : Addr) (p : Pc), vs = [.ref a] ∧ SqT K H a [.int p.1, .int p.2] ∧ Q (.int (p.1 + p.2)) H
theorem ok_out {f : Addr} {fd : FuncData} {k : Nat} (F : Fun K "out_at" "out_at" s_out_at f fd) : FnOk P w K mg base CX0 (k + 1) f fd ["piece"] (spOut K) := by
  refine F.ok sc_out_at (fun vs H Q E h => ?_) (fun cdv A outer s H vs Q E hr h => ?_)
  · obtain ⟨a, p, rfl, _⟩ := h
    rfl
  · obtain ⟨a, p, rfl, hS, q⟩ := h
    have nd := sc_out_at.nd
    refine ⟨_, (pss_cons (ps_asg (pv 0) (kg_tup (K := K) (n := 2) (pgs_cons (pg_name (i := 1) nd rfl (.inl rfl)) (pgs_cons (pg_name (i := 2) nd rfl (.inl rfl)) pgs_nil))))
      (pss_one (ps_ret (pe_op op_add (pv 1) (pv 2))))), ?_⟩
    refine ⟨_, rfl, a, _, rfl, hS, rfl, _, _, rfl, _, _, rfl, rfl, _, rfl, _, rfl, _, _, rfl, rfl, q⟩
abbrev s_is_in : Stmt := topS 6
def n_is_in : List Str := ["piece", "hour"]
theorem sc_is_in : FnScope n_is_in ["piece", "hour"] (defScope s_is_in) := ⟨rfl, rfl, rfl, by decide +kernel, rfl, by decide +kernel, by decide +kernel⟩
def spIn (K : PySem.W.Frag) : Sp := fun vs H Q _ => ∃ (a : Addr) (p : Pc) (h : Int), vs = [.ref a, .int h] ∧ SqT K H a [.int p.1, .int p.2] ∧ Q (.bl (inB p h)) H
theorem ok_in {f : Addr} {fd : FuncData} {k : Nat} (F : Fun K "is_in" "is_in" s_is_in f fd) (c_out_at : Cl P w K mg base (k + 1) "out_at" (spOut K)) : FnOk P w K mg base CX0 (k + 2) f fd ["piece", "hour"] (spIn K) := by
  refine F.ok sc_is_in (fun vs H Q E h => ?_) (fun cdv A outer s H vs Q E hr h => ?_)
  · obtain ⟨a, p, h, rfl, _⟩ := h
    rfl
  · obtain ⟨a, p, h, rfl, hS, q⟩ := h
    have nd := sc_is_in.nd
    refine ⟨_, (pss_one (ps_ret (pe_chain op_le op_lt (pe_ix (kx_tup (K := K)) (pv 0) pe_int (fun _ _ => rfl)) (pv 1) (pe_cl c_out_at hr (by omega) (by rfl) (pa_cons (pv 0) pa_nil))))), ?_⟩
    refine ⟨_, rfl, a, _, 0, _, rfl, rfl, hS, rfl, _, rfl, _, _, rfl, rfl, _, rfl, ite2 (fun h1 => ?_) (fun h1 => ?_)⟩
    · refine ⟨_, rfl, a, p, rfl, hS, _, _, rfl, rfl, ?_⟩
      have e : inB p h = decide (h < p.1 + p.2) := by unfold inB; rw [h1]; rfl
      rw [e] at q; exact q
    · have e : inB p h = false := by unfold inB; rw [Bool.not_eq_true _ |>.mp h1]; rfl
      rw [e] at q; exact q
def spAt (K : PySem.W.Frag) : Sp := fun vs H Q _ => ∃ (a : Addr) (xs : List V) (ps : List Pc) (h : Int), vs = [.ref a, .int h] ∧ SqL K H a xs ∧ DpAll K H xs (ps.map pcD) ∧ ps.length ≤ 60 ∧ ∀ H' L, Same H H' → H L = none → H' L = some (.lst ((hereF ps h).map V.int)) → Q (.ref L) H'
abbrev s_hours_of_coming : Stmt := topS 9
def n_hours_of_coming : List Str := ["pieces", "come", "cool"]
theorem sc_hours_of_coming : FnScope n_hours_of_coming ["pieces"] (defScope s_hours_of_coming) := ⟨rfl, rfl, rfl, by decide +kernel, rfl, by decide +kernel, by decide +kernel⟩
def spHrs (K : PySem.W.Frag) : Sp := fun vs H Q _ => ∃ (a : Addr) (xs : List V) (ps : List Pc), vs = [.ref a] ∧ SqL K H a xs ∧ DpAll K H xs (ps.map pcD) ∧ ps.length ≤ 60 ∧ ∀ H' L zs, Same H H' → H L = none → H' L = some (.lst (zs.map V.int)) → HoursOk ps zs → Q (.ref L) H'
theorem ok_hrs {f : Addr} {fd : FuncData} {k : Nat} (F : Fun K "hours_of_coming" "hours_of_coming" s_hours_of_coming f fd) (T : Txt mg) : FnOk P w K mg base CX0 (k + 1) f fd ["pieces"] (spHrs K) := by
  refine F.ok sc_hours_of_coming (fun vs H Q E h => ?_) (fun cdv A outer s H vs Q E hr h => ?_)
  · obtain ⟨a, xs, ps, rfl, _⟩ := h
    rfl
  · obtain ⟨a, xs, ps, rfl, hS, hx, l60, q⟩ := h
    have nd := sc_hours_of_coming.nd
    have lx : xs.length = ps.length := dpAll_map_len hx
    refine ⟨_, (pss_one (ps_ret (pe_callB (kc_sortedSet (w := w)) (by rfl) T.sorted (by decide +kernel) (pa_cons (pe_callTy (kc_setLj (K := K) (w := w)) (by rfl) T.set (by decide +kernel) (pa_cons (pe_lc (own := [("come", 1), ("cool", 2)]) rfl nd (ki_list (K := K) (pv 0)) (blkOk_by (N := n_hours_of_coming) (sc := defScope s_hours_of_coming) (by decide +kernel)) (fun _ _ _ _ _ => (kg_tup (K := K) (n := 2) (pgs_cons (pg_name (i := 1) nd rfl (.inl rfl)) (pgs_cons (pg_name (i := 2) nd rfl (.inl rfl)) pgs_nil)))) (fun _ _ _ _ _ => pts_nil) (fun _ _ _ _ _ => (pv 1))) pa_nil)) pa_nil)))), ?_⟩
    refine ⟨_, rfl, a, rfl, ⟨_, hS⟩, fun D nD => ?_⟩
    refine lc_it (walk_list (xs := xs)) (PvL H D fun i => ((ps.map (·.1)).take i).map V.int) (pv_start nD rfl) (fun i H4 _ h => h.1.seq hS) ?_ ?_
    · rintro i y H4 H5 hi p ⟨rfl, gx⟩
      obtain ⟨b, rfl, hb, hi2, _⟩ := pcs_at (dpAll_same p.1 hx) gx
      refine ⟨b, _, rfl, hb, rfl, _, _, rfl, _, _, rfl, rfl, rfl, tYes_at ?_⟩
      rw [if_pos rfl]
      refine ⟨_, rfl, ?_⟩
      exact pv_put nD p (Same.refl _) (take_map V.int (by rw [List.getElem?_map, List.getElem?_eq_getElem hi2]; show some _ = some (ps.getD i pc0).1; rw [List.getD_eq_getElem?_getD, List.getElem?_eq_getElem hi2]; rfl)) (take_len_le (by rw [List.length_map]; omega))
    · intro H4 p
      obtain ⟨s4, hD⟩ := pv_end p (take_all (by rw [List.length_map, lx]; exact Nat.le_refl _))
      have ln : (ps.map (·.1)).length ≤ 60 := by rw [List.length_map]; exact l60
      refine ⟨D, ps.map (·.1), rfl, SqL.of hD, (by omega), fun p1 ks np1 nod mem => ?_⟩
      refine ⟨p1, _, _, rfl, upd_same, ?_, fun zs p2 hz hm hl np2 => ?_⟩
      · have := nodup_le (l := ps.map (·.1)) nod fun k hk => (mem k).mp hk
        omega
      · have s2 := (s4.trans (same_upd (o := SetO w p1 (fun k => decide (k ∈ ps.map (·.1))) ks.length) np1)).trans (same_upd (o := .lst (zs.map V.int)) np2)
        refine q _ p2 zs s2 ?_ upd_same ⟨hz, fun k => by rw [hm k, decide_eq_true_eq]⟩
        exact s4.free ((same_upd np1).free np2)

abbrev s_in_at : Stmt := topS 5
def n_in_at : List Str := ["pieces", "hour", "number", "piece"]
theorem sc_in_at : FnScope n_in_at ["pieces", "hour"] (defScope s_in_at) := ⟨rfl, rfl, rfl, by decide +kernel, rfl, by decide +kernel, by decide +kernel⟩
theorem ok_at {f : Addr} {fd : FuncData} {k : Nat} (F : Fun K "in_at" "in_at" s_in_at f fd) (T : Txt mg) (c_is_in : Cl P w K mg base (k + 2) "is_in" (spIn K)) : FnOk P w K mg base CX0 (k + 3) f fd ["pieces", "hour"] (spAt K) := by
  refine F.ok sc_in_at (fun vs H Q E h => ?_) (fun cdv A outer s H vs Q E hr h => ?_)
  · obtain ⟨a, xs, ps, h, rfl, _⟩ := h
    rfl
  · obtain ⟨a, xs, ps, h, rfl, hS, hx, l60, q⟩ := h
    have nd := sc_in_at.nd
    have lx : xs.length = ps.length := dpAll_map_len hx
    refine ⟨_, (pss_one (ps_ret (pe_lc (own := [("number", 2), ("piece", 3)]) rfl nd (ki_enum (K := K) (by rfl) T.enumerate (pa_cons (pv 0) pa_nil)) (blkOk_by (N := n_in_at) (sc := defScope s_in_at) (by decide +kernel)) (fun _ _ _ _ _ => (kg_tup (K := K) (n := 2) (pgs_cons (pg_name (i := 2) nd rfl (.inl rfl)) (pgs_cons (pg_name (i := 3) nd rfl (.inl rfl)) pgs_nil)))) (fun _ _ _ _ _ => (pts_one (pt_val (pe_cl c_is_in hr (by omega) (by rfl) (pa_cons (pv 3) (pa_cons (pv 1) pa_nil)))))) (fun _ _ _ _ _ => (pv 2))))), ?_⟩
    refine ⟨_, rfl, a, _, rfl, hS, fun D nD => ?_⟩
    refine lc_it (walk_enum (xs := xs)) (PvL H D fun i => (hereN ps h i).map natV) (pv_start nD rfl) (fun i H4 _ h => h.1.seq hS) ?_ ?_
    · rintro i y H4 H5 hi p ⟨u, x1, x2, rfl, nu, rfl, g1, g2⟩
      cases g1
      replace g2 : xs[i]? = some x2 := g2
      obtain ⟨b, rfl, hb, hi2, _⟩ := pcs_at (dpAll_same p.1 hx) g2
      have su := same_upd (o := .tup [.int (i : Nat), .ref b]) nu
      refine ⟨u, _, rfl, .inl (.inl upd_same), rfl, _, _, rfl, _, _, rfl, rfl, rfl, ?_⟩
      refine ⟨_, rfl, _, rfl, b, ps.getD i pc0, h, rfl, same_tup su hb, _, rfl, ?_⟩
      have lf : ((hereN ps h i).map natV).length < sizeLine := by
        rw [List.length_map, sizeLine_eq]
        have := hereN_len ps h i
        omega
      cases e : inB (ps.getD i pc0) h with
      | true =>
        refine iteT ⟨_, rfl, ?_⟩
        exact pv_put nD p su (by rw [hereN_yes e, List.map_append]; rfl) lf
      | false =>
        refine iteF ?_
        exact pv_skip p su (by rw [hereN_no e])
    · intro H4 p
      obtain ⟨s4, hD⟩ := pv_end p (show _ = (hereF ps h).map V.int by rw [← hereF_map, lx])
      exact q _ _ s4 nD hD

abbrev s__law_here : Stmt := topS 20
def n__law_here : List Str := ["_law_pieces_here", "_law_hour", "_law_found", "_law_number", "_law_come", "_law_cool"]
theorem sc__law_here : FnScope n__law_here ["_law_pieces_here", "_law_hour"] (defScope s__law_here) := ⟨rfl, rfl, rfl, by decide +kernel, rfl, by decide +kernel, by decide +kernel⟩
theorem ok_here {f : Addr} {fd : FuncData} {k : Nat} (F : Fun K "_law_here" "_law_here" s__law_here f fd) (T : Txt mg) : FnOk P w K mg base CX0 (k + 1) f fd ["_law_pieces_here", "_law_hour"] (spAt K) := by
  refine F.ok sc__law_here (fun vs H Q E h => ?_) (fun cdv A outer s H vs Q E hr h => ?_)
  · obtain ⟨a, xs, ps, h, rfl, _⟩ := h
    rfl
  · obtain ⟨a, xs, ps, h, rfl, hS, hx, l60, q⟩ := h
    have nd := sc__law_here.nd
    have lx : xs.length = ps.length := dpAll_map_len hx
    refine ⟨_, (pss_cons (ps_set (i := 2) nd rfl (.inl rfl) (pe_lst pa_nil))
      (pss_cons (ps_for PassesOwn.never rfl (ki_enum (K := K) (by rfl) T.enumerate (pa_cons (pv 0) pa_nil)) (kg_tup (K := K) (n := 2) (pgs_cons (pg_name (i := 3) nd rfl (.inl rfl)) (pgs_cons (kg_tup (K := K) (n := 2) (pgs_cons (pg_name (i := 4) nd rfl (.inl rfl)) (pgs_cons (pg_name (i := 5) nd rfl (.inl rfl)) pgs_nil))) pgs_nil)))
          (pss_one (ps_if ((pw_and (pt_cmpR op_le (pv 4) (pv 1) (nomark _)) (pw_and1 (pt_cmpR op_lt (pe_op op_sub (pv 1) (pv 4)) (pv 5) (nomark _))))).pt
              (pss_one (ps_expr (pe_bm PySem.F.plainAttrs_list PySem.F.slot_list_append PySem.F.type_list_append mt_append (pv 2) (pa_cons (pv 3) pa_nil))))
              pss_nil)))
      (pss_one (ps_ret (pv 2))))), ?_⟩
    refine ⟨Nat.zero_le _, fun L nL => ?_⟩
    refine ⟨_, rfl, a, _, rfl, (same_upd nL).seq hS, ?_⟩
    refine for_it (walk_enum (xs := xs)) (fun i σ H2 => ∃ v3 v4 v5, σ = [some (.ref a), some (.int h), some (.ref L), v3, v4, v5] ∧ PvL H L (fun i => (hereN ps h i).map natV) i H2) ⟨_, _, _, rfl, pv_start nL rfl⟩ (fun i σ H4 _ h => by obtain ⟨_, _, _, _, h⟩ := h; exact h.1.seq hS) ?_ ?_
    · rintro i y σ H4 H5 hi ⟨v3, v4, v5, rfl, p⟩ ⟨u, x1, x2, rfl, nu, rfl, g1, g2⟩
      cases g1
      replace g2 : xs[i]? = some x2 := g2
      obtain ⟨b, rfl, hb, hi2, _⟩ := pcs_at (dpAll_same p.1 hx) g2
      have su := same_upd (o := .tup [.int (i : Nat), .ref b]) nu
      have lf : ((hereN ps h i).map natV).length < sizeLine := by
        rw [List.length_map, sizeLine_eq]
        have := hereN_len ps h i
        omega
      refine ⟨u, _, rfl, .inl (.inl upd_same), rfl, _, _, rfl, _, _, rfl, b, _, rfl, same_tup su hb, rfl, _, _, rfl, _, _, rfl, rfl, rfl, ?_⟩
      refine ⟨_, rfl, _, rfl, _, _, rfl, rfl, _, rfl, ite2 (fun h1 => ?_) (fun h1 => ?_)⟩
      · refine ⟨_, rfl, _, rfl, _, _, rfl, rfl, _, rfl, _, _, rfl, rfl, _, rfl, ite2 (fun h2 => ?_) (fun h2 => ?_)⟩
        · have e : inB (ps.getD i pc0) h = true := by unfold inB; rw [h1, decide_eq_true (by have := of_decide_eq_true h2; omega)]; rfl
          refine ⟨_, rfl, .inl ⟨rfl, _, SqL.of (su _ _ p.2)⟩, _, rfl, L, _, _, rfl, rfl, su _ _ p.2, lf, ?_⟩
          refine ⟨_, _, _, rfl, same_put (p.1.trans su) nL, ?_⟩
          show _ = some (HO.lst ((hereN ps h (i + 1)).map natV))
          rw [hereN_yes e, List.map_append]; exact upd_same
        · have e : inB (ps.getD i pc0) h = false := by unfold inB; rw [h1, decide_eq_false (fun z => h2 (decide_eq_true (by omega)))]; rfl
          exact ⟨_, _, _, rfl, pv_skip p su (by rw [hereN_no e])⟩
      · have e : inB (ps.getD i pc0) h = false := by unfold inB; rw [Bool.not_eq_true _ |>.mp h1]; rfl
        exact ⟨_, _, _, rfl, pv_skip p su (by rw [hereN_no e])⟩
    · rintro σ H4 ⟨v3, v4, v5, rfl, p⟩
      obtain ⟨s4, hL⟩ := pv_end p (show _ = (hereF ps h).map V.int by rw [← hereF_map, lx])
      exact ⟨_, rfl, q _ _ s4 nL hL⟩



end
end Pot

namespace Pot
open PySem PySem.Spec PyProof.Rows L2
section
variable {P : Program} {w : World} {K : PySem.W.Frag} {mg : Str → Option Value} {base : Heap}
theorem sm_wr0 {H H2 : Hp} {S : List Addr} {L : Addr} {o : HO} (s : Sm S H H2) (n : H L = none) : Sm S H (upd H2 L o) := fun x u e => by
  have nm := off_mem e
  have e2 := s x u e
  rw [off_out nm] at e e2 ⊢
  have ne : x ≠ L := fun z => by rw [z, n] at e; cases e
  rw [upd_ne ne]; exact e2
theorem pcs_gd : ∀ {ps : List Pc}, (∀ p ∈ ps, 0 ≤ p.1 ∧ p.1 ≤ 1000000 ∧ 1 ≤ p.2 ∧ p.2 ≤ 99) → gd 1000000 (.list (ps.map pcD)) := fun h => gdAll_iff.mpr fun d hd => by
  obtain ⟨p, hp, rfl⟩ := List.mem_map.mp hd
  have := h p hp
  exact ⟨by show p.1.natAbs ≤ _; omega, by show p.2.natAbs ≤ _; omega, trivial⟩
theorem pcs_depth : ∀ (ps : List Pc), PyData.depth (.list (ps.map pcD)) ≤ 3 := fun ps => by
  show PyData.depthAll (ps.map pcD) + 1 ≤ 3
  have : PyData.depthAll (ps.map pcD) ≤ 2 := depthAll_iff.mpr fun d hd => by
    obtain ⟨p, hp, rfl⟩ := List.mem_map.mp hd
    simp [pcD, PyData.depth, PyData.depthAll]
  omega
theorem pcs_shaped {ps : List Pc} (h : ∀ p ∈ ps, 0 ≤ p.1 ∧ p.1 ≤ 1000000 ∧ 1 ≤ p.2 ∧ p.2 ≤ 99) : SeqAt.shaped (.list (ps.map pcD)) = true := gd_shaped (pcs_gd h) (Nat.le_trans (pcs_depth ps) (by decide))
structure PcOk (ps : List Pc) : Prop where
  len : ps.length ≤ 40
  each : ∀ p ∈ ps, 0 ≤ p.1 ∧ p.1 ≤ 1000000 ∧ 1 ≤ p.2 ∧ p.2 ≤ 99
theorem noL_pc (p : Pc) : noLAll.noL (pcD p) := ⟨trivial, trivial, trivial⟩
def spPieces (K : PySem.W.Frag) : Sp := fun vs H Q _ => ∃ (b : Addr) (n : Nat), vs = [.ref b, .int 40] ∧ Bq H b n ∧ n < 2 ^ 39 ∧
  ∀ (H' : Hp) (L : Addr) (xs : List V) (ps : List Pc), Bq H' b (n + 250) → Sm [b] H H' → H L = none → H' L = some (.lst xs) → DpAll K (off H' [L, b]) xs (ps.map pcD) → PcOk ps → Q (.ref L) H'
abbrev s__law_pieces : Stmt := topS 19
def n__law_pieces : List Str := ["_law_state", "_law_most", "_law_found", "_law_near", "_law_wide", "_law_long", "_law_k", "_law_piece"]
theorem sc__law_pieces : FnScope n__law_pieces ["_law_state", "_law_most"] (defScope s__law_pieces) := ⟨rfl, rfl, rfl, by decide +kernel, rfl, by decide +kernel, by decide +kernel⟩
theorem ok_pieces {f : Addr} {fd : FuncData} {k : Nat} (F : Fun K "_law_pieces" "_law_pieces" s__law_pieces f fd) (T : Txt mg) (c__law_take : Cl P w K mg base (k + 1) "_law_take" spTake) : FnOk P w K mg base CX0 (k + 2) f fd ["_law_state", "_law_most"] (spPieces K) := by
  refine F.ok sc__law_pieces (fun vs H Q E h => ?_) (fun cdv A outer s H vs Q E hr h => ?_)
  · obtain ⟨b, n, rfl, _⟩ := h
    rfl
  · obtain ⟨b, n, rfl, B, hn, q⟩ := h
    have nd := sc__law_pieces.nd
    have hu64 := hr.units
    refine ⟨_, (pss_cons (ps_par (i := 2) (j := 3) rfl nd rfl rfl (by decide) rfl rfl (pa_cons (pe_lst pa_nil) (pa_cons (pe_ix (kx_list (K := K)) (pe_lst (pa_cons pe_int (pa_cons (pe_cl c__law_take hr (by omega) (by rfl) (pa_cons (pv 0) (pa_cons pe_int pa_nil))) (pa_cons (pe_op op_sub (pe_op op_pow pe_int pe_int) (pe_cl c__law_take hr (by omega) (by rfl) (pa_cons (pv 0) (pa_cons pe_int pa_nil)))) pa_nil)))) (pe_cl c__law_take hr (by omega) (by rfl) (pa_cons (pv 0) (pa_cons pe_int pa_nil))) (fun _ _ => rfl)) pa_nil)) rfl)
      (pss_cons (ps_par (i := 4) (j := 5) rfl nd rfl rfl (by decide) rfl rfl (pa_cons (pe_ix (kx_list (K := K)) (pe_lst (pa_cons pe_int (pa_cons pe_int (pa_cons pe_int (pa_cons pe_int pa_nil))))) (pe_cl c__law_take hr (by omega) (by rfl) (pa_cons (pv 0) (pa_cons pe_int pa_nil))) (fun _ _ => rfl)) (pa_cons (pe_ix (kx_list (K := K)) (pe_lst (pa_cons pe_int (pa_cons pe_int (pa_cons pe_int (pa_cons pe_int pa_nil))))) (pe_cl c__law_take hr (by omega) (by rfl) (pa_cons (pv 0) (pa_cons pe_int pa_nil))) (fun _ _ => rfl)) pa_nil)) rfl)
      (pss_cons (ps_for PassesOwn.never rfl (pi_range1 (by rfl) T.range (pa_cons (pe_ix (kx_list (K := K)) (pe_lst (pa_cons (pe_cl c__law_take hr (by omega) (by rfl) (pa_cons (pv 0) (pa_cons (pe_op op_add (pv 1) pe_int) pa_nil))) (pa_cons (pv 1) (pa_cons (pe_cl c__law_take hr (by omega) (by rfl) (pa_cons (pv 0) (pa_cons pe_int pa_nil))) pa_nil)))) (pe_cl c__law_take hr (by omega) (by rfl) (pa_cons (pv 0) (pa_cons pe_int pa_nil))) (fun _ _ => rfl)) pa_nil)) (pg_name (i := 6) nd rfl (.inl rfl))
          (pss_cons (ps_set (i := 7) nd rfl (.inl rfl) (pe_tup (pa_cons (pe_callB (call_min2 rfl) (by rfl) T.min (by decide +kernel) (pa_cons (pe_op op_pow pe_int pe_int) (pa_cons (pe_op op_add (pv 3) (pe_cl c__law_take hr (by omega) (by rfl) (pa_cons (pv 0) (pa_cons (pv 4) pa_nil)))) pa_nil))) (pa_cons (pe_op op_add pe_int (pe_cl c__law_take hr (by omega) (by rfl) (pa_cons (pv 0) (pa_cons (pv 5) pa_nil)))) pa_nil))))
          (pss_cons (ps_if ((pw_and (pt_cmpR (ko_ne (K := K) hu64) (pv 2) (pe_lst pa_nil) (nomark _)) (pw_and1 (pt_cmpR op_eq (pe_cl c__law_take hr (by omega) (by rfl) (pa_cons (pv 0) (pa_cons pe_int pa_nil))) pe_int (nomark _))))).pt
              (pss_one (ps_set (i := 7) nd rfl (.inl rfl) (pe_ix (kx_list (K := K)) (pv 2) (pe_cl c__law_take hr (by omega) (by rfl) (pa_cons (pv 0) (pa_cons (pe_callB (kc_len (K := K)) (by rfl) T.len PySem.boot_len (pa_cons (pv 2) pa_nil)) pa_nil))) (fun _ _ => rfl))))
              pss_nil)
          (pss_one (ps_expr (pe_bm PySem.F.plainAttrs_list PySem.F.slot_list_append PySem.F.type_list_append mt_append (pv 2) (pa_cons (pv 7) pa_nil)))))))
      (pss_one (ps_ret (pv 2)))))), ?_⟩
    have lv := Live.q B
    have sc : Sm [b] H H := Same.refl _
    obtain ⟨S, eS⟩ : ∃ S, S = [b] := ⟨_, rfl⟩
    have hb : b ∈ S := by rw [eS]; simp
    rw [← eS] at lv
    refine ⟨Nat.zero_le _, fun L nL => ?_⟩
    have Lb : L ≠ b := B.ne nL
    have fL := off_new (o := .lst []) lv nL
    have lv := lv.put (o := .lst []) nL
    have B := B.put (o := .lst []) nL
    have sc := sc.trans (sm_put (S := [b]) (o := .lst []) nL)
    generalize upd H L (.lst []) = H1 at fL lv B sc  ⊢
    refine ⟨_, rfl, b, 30, _, rfl, (by decide), (by decide), B, by omega, fun H2 r1 r10 r11 B2 s2 => ?_⟩
    have lv := lv.box B2.bx s2
    have sc := sc.trans s2
    have B := B2
    have fL := (sm_one hb s2) _ _ fL
    refine ⟨_, _, rfl, rfl, ⟨by decide, by decide, by decide⟩, _, rfl, b, 300, _, rfl, (by decide), (by decide), B, by omega, fun H3 r2 r20 r21 B3 s3 => ⟨_, _, rfl, rfl, (by show 3 ≤ sizeLine; decide), fun p1 np1 => ?_⟩⟩
    have lv := lv.box B3.bx s3
    have sc := sc.trans s3
    have B := B3
    have fL := (sm_one hb s3) _ _ fL
    have fp1 := off_new (o := .lst [.int 0, .int r1, .int (10 ^ Int.toNat 6 - r2)]) lv np1
    have lv := lv.put (o := .lst [.int 0, .int r1, .int (10 ^ Int.toNat 6 - r2)]) np1
    have B := B.put (o := .lst [.int 0, .int r1, .int (10 ^ Int.toNat 6 - r2)]) np1
    have sc := sc.trans (sm_put (S := [b]) (o := .lst [.int 0, .int r1, .int (10 ^ Int.toNat 6 - r2)]) np1)
    have fL := (sm_put (S := S) (o := .lst [.int 0, .int r1, .int (10 ^ Int.toNat 6 - r2)]) np1) _ _ fL
    generalize upd H3 p1 (.lst [.int 0, .int r1, .int (10 ^ Int.toNat 6 - r2)]) = H4 at fp1 lv B sc fL ⊢
    refine ⟨_, rfl, b, 3, _, rfl, (by decide), (by decide), B, by omega, fun H5 r3 r30 r31 B5 s5 => ?_⟩
    have lv := lv.box B5.bx s5
    have sc := sc.trans s5
    have B := B5
    have fL := (sm_one hb s5) _ _ fL
    have fp1 := (sm_one hb s5) _ _ fp1
    obtain ⟨near, en, n0, n1⟩ : ∃ near : Int, atI [V.int 0, .int r1, .int (10 ^ Int.toNat 6 - r2)] r3 = some (.int near) ∧ 0 ≤ near ∧ near ≤ 1000000 := by
      have e6 : (10 : Int) ^ Int.toNat 6 = 1000000 := by decide
      have h : r3 = 0 ∨ r3 = 1 ∨ r3 = 2 := by omega
      rcases h with rfl | rfl | rfl
      · exact ⟨0, rfl, by decide, by decide⟩
      · exact ⟨r1, rfl, by omega, by omega⟩
      · exact ⟨_, rfl, by rw [e6]; omega, by rw [e6]; omega⟩
    refine ⟨p1, _, r3, _, rfl, rfl, SqL.of (at_off fp1), en, _, _, rfl, ?_⟩
    refine ⟨(by show 4 ≤ sizeLine; decide), fun p2 np2 => ?_⟩
    have fp2 := off_new (o := .lst [.int 1, .int 6, .int 40, .int 300]) lv np2
    have lv := lv.put (o := .lst [.int 1, .int 6, .int 40, .int 300]) np2
    have B := B.put (o := .lst [.int 1, .int 6, .int 40, .int 300]) np2
    have sc := sc.trans (sm_put (S := [b]) (o := .lst [.int 1, .int 6, .int 40, .int 300]) np2)
    have fL := (sm_put (S := S) (o := .lst [.int 1, .int 6, .int 40, .int 300]) np2) _ _ fL
    generalize upd H5 p2 (.lst [.int 1, .int 6, .int 40, .int 300]) = H6 at fp2 lv B sc fL ⊢
    refine ⟨_, rfl, b, 4, _, rfl, (by decide), (by decide), B, by omega, fun H7 r4 r40 r41 B7 s7 => ?_⟩
    have lv := lv.box B7.bx s7
    have sc := sc.trans s7
    have B := B7
    have fL := (sm_one hb s7) _ _ fL
    have fp2 := (sm_one hb s7) _ _ fp2
    obtain ⟨wide, ew, w0, w1⟩ : ∃ wide : Int, atI [V.int 1, .int 6, .int 40, .int 300] r4 = some (.int wide) ∧ 0 < wide ∧ wide ≤ 300 := by
      have h : r4 = 0 ∨ r4 = 1 ∨ r4 = 2 ∨ r4 = 3 := by omega
      rcases h with rfl | rfl | rfl | rfl
      · exact ⟨1, rfl, by decide, by decide⟩
      · exact ⟨6, rfl, by decide, by decide⟩
      · exact ⟨40, rfl, by decide, by decide⟩
      · exact ⟨300, rfl, by decide, by decide⟩
    refine ⟨p2, _, r4, _, rfl, rfl, SqL.of (at_off fp2), ew, ?_⟩
    refine ⟨(by show 4 ≤ sizeLine; decide), fun p3 np3 => ?_⟩
    have fp3 := off_new (o := .lst [.int 1, .int 4, .int 30, .int 99]) lv np3
    have lv := lv.put (o := .lst [.int 1, .int 4, .int 30, .int 99]) np3
    have B := B.put (o := .lst [.int 1, .int 4, .int 30, .int 99]) np3
    have sc := sc.trans (sm_put (S := [b]) (o := .lst [.int 1, .int 4, .int 30, .int 99]) np3)
    have fL := (sm_put (S := S) (o := .lst [.int 1, .int 4, .int 30, .int 99]) np3) _ _ fL
    generalize upd H7 p3 (.lst [.int 1, .int 4, .int 30, .int 99]) = H8 at fp3 lv B sc fL ⊢
    refine ⟨_, rfl, b, 4, _, rfl, (by decide), (by decide), B, by omega, fun H9 r5 r50 r51 B9 s9 => ?_⟩
    have lv := lv.box B9.bx s9
    have sc := sc.trans s9
    have B := B9
    have fL := (sm_one hb s9) _ _ fL
    have fp3 := (sm_one hb s9) _ _ fp3
    obtain ⟨long, el, l0, l1⟩ : ∃ long : Int, atI [V.int 1, .int 4, .int 30, .int 99] r5 = some (.int long) ∧ 0 < long ∧ long ≤ 99 := by
      have h : r5 = 0 ∨ r5 = 1 ∨ r5 = 2 ∨ r5 = 3 := by omega
      rcases h with rfl | rfl | rfl | rfl
      · exact ⟨1, rfl, by decide, by decide⟩
      · exact ⟨4, rfl, by decide, by decide⟩
      · exact ⟨30, rfl, by decide, by decide⟩
      · exact ⟨99, rfl, by decide, by decide⟩
    refine ⟨p3, _, r5, _, rfl, rfl, SqL.of (at_off fp3), el, _, _, rfl, ?_⟩
    refine ⟨_, rfl, _, rfl, _, _, rfl, rfl, b, 40 + 1, _, rfl, (by decide), (by decide), B, by omega, fun H10 r6 r60 r61 B10 s10 => ?_⟩
    have lv := lv.box B10.bx s10
    have sc := sc.trans s10
    have B := B10
    have fL := (sm_one hb s10) _ _ fL
    refine ⟨_, rfl, _, rfl, b, 6, _, rfl, (by decide), (by decide), B, by omega, fun H11 r7 r70 r71 B11 s11 => ⟨(by show 3 ≤ sizeLine; decide), fun p4 np4 => ?_⟩⟩
    have lv := lv.box B11.bx s11
    have sc := sc.trans s11
    have B := B11
    have fL := (sm_one hb s11) _ _ fL
    have fp4 := off_new (o := .lst [.int r6, .int 40, .int r7]) lv np4
    have lv := lv.put (o := .lst [.int r6, .int 40, .int r7]) np4
    have B := B.put (o := .lst [.int r6, .int 40, .int r7]) np4
    have sc := sc.trans (sm_put (S := [b]) (o := .lst [.int r6, .int 40, .int r7]) np4)
    have fL := (sm_put (S := S) (o := .lst [.int r6, .int 40, .int r7]) np4) _ _ fL
    generalize upd H11 p4 (.lst [.int r6, .int 40, .int r7]) = H12 at fp4 lv B sc fL ⊢
    refine ⟨_, rfl, b, 3, _, rfl, (by decide), (by decide), B, by omega, fun H13 r8 r80 r81 B13 s13 => ?_⟩
    have lv := lv.box B13.bx s13
    have sc := sc.trans s13
    have B := B13
    have fL := (sm_one hb s13) _ _ fL
    have fp4 := (sm_one hb s13) _ _ fp4
    obtain ⟨many, em, m0, m1⟩ : ∃ many : Int, atI [V.int r6, .int 40, .int r7] r8 = some (.int many) ∧ 0 ≤ many ∧ many ≤ 40 := by
      have h : r8 = 0 ∨ r8 = 1 ∨ r8 = 2 := by omega
      rcases h with rfl | rfl | rfl
      · exact ⟨r6, rfl, by omega, by omega⟩
      · exact ⟨40, rfl, by decide, by decide⟩
      · exact ⟨r7, rfl, by omega, by omega⟩
    refine ⟨p4, _, r8, _, rfl, rfl, SqL.of (at_off fp4), em, ?_⟩
    have nL0 : H L = none := nL
    have fL := at_off fL
    have B := B.mono (show _ ≤ n + 20 by omega)
    clear lv hb
    refine ⟨_, rfl, (by omega), (by omega), ?_⟩
    refine for_it walk_range (fun i σ H2 => ∃ v6 v7 xs ps, σ = [some (.ref b), some (.int 40), some (.ref L), some (.int near), some (.int wide), some (.int long), v6, v7] ∧ Bq H2 b (n + 20 + 5 * i) ∧ Sm [b] H H2 ∧ H2 L = some (.lst xs) ∧ DpAll K (off H2 [L, b]) xs (ps.map pcD) ∧ ps.length = i ∧ ∀ p ∈ ps, 0 ≤ p.1 ∧ p.1 ≤ 1000000 ∧ 1 ≤ p.2 ∧ p.2 ≤ 99)
      ⟨_, _, [], [], rfl, B, sc, fL, .nil, rfl, fun _ h => (List.not_mem_nil h).elim⟩ (fun _ _ _ _ _ => trivial) ?_ ?_
    · rintro i x σ H2 H3 hi ⟨v6, v7, xs, ps, rfl, B, sc, hL, da, lp, bp⟩ ⟨rfl, rfl⟩
      have hi40 : i < 40 := by omega
      generalize hm : n + 20 + 5 * i = m at B
      have hmm : m < 2 ^ 40 - 10 := by omega
      have lx : xs.length = ps.length := dpAll_map_len da
      obtain ⟨S, eS⟩ : ∃ S, S = [L, b] := ⟨_, rfl⟩
      have hb : b ∈ S := by rw [eS]; simp
      have hLS : L ∈ S := by rw [eS]; simp
      have lv : Live S H3 := by rw [eS]; exact (Live.q B).cons hL
      rw [← eS] at da
      refine ⟨_, _, rfl, rfl, ⟨by decide, by decide, by decide⟩, _, rfl, _, rfl, _, rfl, b, wide, _, rfl, w0, by omega, B, by omega, fun H4 r1 r10 r11 B4 s4 => ⟨_, _, rfl, rfl, _, _, rfl, ?_⟩⟩
      have hL := sm_at s4 (by simp [Lb]) hL
      have lv := lv.box B4.bx s4
      have sc := sc.trans s4
      have B := B4
      have da := dpAll_same ((sm_one hb s4)) da
      refine ⟨_, rfl, _, rfl, b, long, _, rfl, l0, by omega, B, by omega, fun H5 r2 r20 r21 B5 s5 => ⟨_, _, rfl, rfl, (by show 2 ≤ sizeLine; decide), fun t nt => ?_⟩⟩
      have hL := sm_at s5 (by simp [Lb]) hL
      have lv := lv.box B5.bx s5
      have sc := sc.trans s5
      have B := B5
      have da := dpAll_same ((sm_one hb s5)) da
      have tL : L ≠ t := ne_of_none hL nt
      have hL := same_upd (o := .tup [.int (if near + r1 < 10 ^ Int.toNat 6 then near + r1 else 10 ^ Int.toNat 6), .int (1 + r2)]) nt _ _ hL
      have ft := off_new (o := .tup [.int (if near + r1 < 10 ^ Int.toNat 6 then near + r1 else 10 ^ Int.toNat 6), .int (1 + r2)]) lv nt
      have lv := lv.put (o := .tup [.int (if near + r1 < 10 ^ Int.toNat 6 then near + r1 else 10 ^ Int.toNat 6), .int (1 + r2)]) nt
      have B := B.put (o := .tup [.int (if near + r1 < 10 ^ Int.toNat 6 then near + r1 else 10 ^ Int.toNat 6), .int (1 + r2)]) nt
      have sc := sc.trans (sm_put (S := [b]) (o := .tup [.int (if near + r1 < 10 ^ Int.toNat 6 then near + r1 else 10 ^ Int.toNat 6), .int (1 + r2)]) nt)
      have da := dpAll_same ((sm_put (S := S) (o := .tup [.int (if near + r1 < 10 ^ Int.toNat 6 then near + r1 else 10 ^ Int.toNat 6), .int (1 + r2)]) nt)) da
      generalize upd H5 t (.tup [.int (if near + r1 < 10 ^ Int.toNat 6 then near + r1 else 10 ^ Int.toNat 6), .int (1 + r2)]) = H6 at ft lv B sc hL da ⊢
      obtain ⟨pc, ec, pok⟩ : ∃ pc : Pc, Dp K (off H6 S) (.ref t) (pcD pc) ∧ (0 ≤ pc.1 ∧ pc.1 ≤ 1000000 ∧ 1 ≤ pc.2 ∧ pc.2 ≤ 99) := by
        have e6 : (10 : Int) ^ Int.toNat 6 = 1000000 := by decide
        rw [e6] at ft
        refine ⟨(if near + r1 < 1000000 then near + r1 else 1000000, 1 + r2), .tup (.inl (.inl ft)) (.cons (.int _) (.cons (.int _) .nil)), ?_, ?_, ?_, ?_⟩
        · show 0 ≤ (if near + r1 < 1000000 then near + r1 else 1000000); split <;> omega
        · show (if near + r1 < 1000000 then near + r1 else 1000000) ≤ 1000000; split <;> omega
        · show 1 ≤ 1 + r2; omega
        · show 1 + r2 ≤ 99; omega
      refine ⟨_, rfl, Nat.zero_le _, fun e ne => ?_⟩
      have hL := same_upd (o := .lst []) ne _ _ hL
      have fe := off_new (o := .lst []) lv ne
      have lv := lv.put (o := .lst []) ne
      have B := B.put (o := .lst []) ne
      have sc := sc.trans (sm_put (S := [b]) (o := .lst []) ne)
      have da := dpAll_same ((sm_put (S := S) (o := .lst []) ne)) da
      have ec := dp_same ((sm_put (S := S) (o := .lst []) ne)) ec
      generalize upd H6 e (.lst []) = H7 at fe lv B sc hL da ec ⊢
      have dL : Dp K H7 (.ref L) (.list (ps.map pcD)) := .lst (SqL.of hL) (dpAll_same off_sub da)
      refine ⟨_, _, dL, .lst (SqL.of (at_off fe)) .nil, pcs_shaped bp, PySem.W.ke_shaped_ints [], _, rfl, ?_⟩
      by_cases hps : ps = []
      · have e2 : PyData.eqv (.list (ps.map pcD)) (.list []) = true := by rw [hps]; rfl
        rw [e2]
        refine iteF ?_
        refine ⟨_, rfl, .inl ⟨rfl, _, SqL.of hL⟩, _, rfl, L, _, _, rfl, rfl, hL, (by rw [lx, lp, sizeLine_eq]; omega), ?_⟩
        refine ⟨_, _, _, ps ++ [pc], rfl, (B.wr Lb).mono (by omega), sm_wr0 sc nL0, upd_same, ?_, (by rw [List.length_append, lp]; rfl), fun p hp => ?_⟩
        · rw [← eS, List.map_append]
          exact dpAll_same (sm_wr hLS) (dpAll_app da (.cons ec .nil))
        · rcases List.mem_append.mp hp with h | h
          · exact bp p h
          · rw [List.mem_singleton.mp h]; exact pok
      · have e2 : PyData.eqv (.list (ps.map pcD)) (.list []) = false := by
          cases ps with
          | nil => exact absurd rfl hps
          | cons _ _ => rfl
        rw [e2]
        refine iteT ⟨_, rfl, b, 6, _, rfl, (by decide), (by decide), B, by omega, fun H8 r3 r30 r31 B8 s8 => ⟨rfl, _, rfl, ?_⟩⟩
        have hL := sm_at s8 (by simp [Lb]) hL
        have lv := lv.box B8.bx s8
        have sc := sc.trans s8
        have B := B8
        have da := dpAll_same ((sm_one hb s8)) da
        have ec := dp_same ((sm_one hb s8)) ec
        refine ite2 (fun c1 => ?_) (fun c1 => ?_)
        · have lp0 : 0 < ps.length := List.length_pos_iff.mpr hps
          refine ⟨_, rfl, _, rfl, _, rfl, _, _, rfl, .inl ⟨_, SqL.of hL, rfl⟩, b, _, _, rfl, (by omega), (by omega), B, by omega, fun H9 r4 r40 r41 B9 s9 => ?_⟩
          have hL := sm_at s9 (by simp [Lb]) hL
          have lv := lv.box B9.bx s9
          have sc := sc.trans s9
          have B := B9
          have da := dpAll_same ((sm_one hb s9)) da
          have ec := dp_same ((sm_one hb s9)) ec
          obtain ⟨ri, rfl⟩ : ∃ ri : Nat, r4 = (ri : Int) := ⟨r4.toNat, by omega⟩
          have hri : ri < xs.length := by omega
          obtain ⟨a2, ea2, _, hri2, ec⟩ := pcs_at da (List.getElem?_eq_getElem hri)
          refine ⟨L, _, _, _, rfl, rfl, SqL.of hL, atI_nat (List.getElem?_eq_getElem hri), ?_⟩
          have pok := bp (ps.getD ri pc0) (by rw [List.getD_eq_getElem?_getD, List.getElem?_eq_getElem hri2]; exact List.getElem_mem hri2)
          generalize ps.getD ri pc0 = pc at ec pok
          refine ⟨_, rfl, .inl ⟨rfl, _, SqL.of hL⟩, _, rfl, L, _, _, rfl, rfl, hL, (by rw [lx, lp, sizeLine_eq]; omega), ?_⟩
          refine ⟨_, _, _, ps ++ [pc], rfl, (B.wr Lb).mono (by omega), sm_wr0 sc nL0, upd_same, ?_, (by rw [List.length_append, lp]; rfl), fun p hp => ?_⟩
          · rw [← eS, List.map_append]
            exact dpAll_same (sm_wr hLS) (dpAll_app da (.cons ec .nil))
          · rcases List.mem_append.mp hp with h | h
            · exact bp p h
            · rw [List.mem_singleton.mp h]; exact pok
        · skip
          refine ⟨_, rfl, .inl ⟨rfl, _, SqL.of hL⟩, _, rfl, L, _, _, rfl, rfl, hL, (by rw [lx, lp, sizeLine_eq]; omega), ?_⟩
          refine ⟨_, _, _, ps ++ [pc], rfl, (B.wr Lb).mono (by omega), sm_wr0 sc nL0, upd_same, ?_, (by rw [List.length_append, lp]; rfl), fun p hp => ?_⟩
          · rw [← eS, List.map_append]
            exact dpAll_same (sm_wr hLS) (dpAll_app da (.cons ec .nil))
          · rcases List.mem_append.mp hp with h | h
            · exact bp p h
            · rw [List.mem_singleton.mp h]; exact pok
    · rintro σ H2 ⟨v6, v7, xs, ps, rfl, B, sc, hL, da, lp, bp⟩
      exact ⟨_, rfl, q _ L xs ps (B.mono (by omega)) sc nL0 hL da ⟨by omega, bp⟩⟩

end
end Pot

namespace Pot
open PySem PySem.Spec PyProof.Rows L2
section
variable {P : Program} {w : World} {K : PySem.W.Frag} {mg : Str → Option Value} {base : Heap}
def qBy : Str := ("by_coming" : Str) ++ (".<locals>." : Str) ++ ("<lambda>" : Str)
def qKp : Str := ("kept_in" : Str) ++ (".<locals>." : Str) ++ ("<lambda>" : Str)
def TT (Pt Pk : Addr) : List (Addr × Str) := [(Pt, qBy), (Pk, qKp)]
def cmF (ps : List Pc) (i : Nat) : Int := (ps.getD i pc0).1
def ordF (ps : List Pc) : List Nat := (List.range ps.length).mergeSort fun i j => decide (cmF ps i < cmF ps j ∨ (cmF ps i = cmF ps j ∧ (i : Int) ≤ (j : Int)))
def spBy (K : PySem.W.Frag) (Pt Pk : Addr) : Sp := fun vs H Q _ => ∃ (a : Addr) (xs : List V) (ps : List Pc), vs = [.ref a] ∧ SqL K H a xs ∧ DpAll K H xs (ps.map pcD) ∧ ps.length ≤ 60 ∧ LamX.Tabs (TT Pt Pk) H ∧
  ∀ (H' : Hp) (L : Addr), LamX.ExtN H H' → LamX.Tabs (TT Pt Pk) H' → (∀ x u, H x = some u → (∀ ps, u ≠ .tbl ps) → x ≠ L) → H' L = some (.lst ((ordF ps).map natV)) → Q (.ref L) H'
abbrev s_by_coming : Stmt := topS 10
def n_by_coming : List Str := ["pieces"]
theorem sc_by_coming : FnScope n_by_coming ["pieces"] (defScope s_by_coming) := ⟨rfl, rfl, rfl, by decide +kernel, rfl, by decide +kernel, by decide +kernel⟩
theorem ok_by {f cd0 Pt Pk : Addr} {fd : FuncData} {k : Nat} (F : Fun K "by_coming" "by_coming" s_by_coming f fd) (hcd : fd.code = .ref cd0) (T : Txt mg) (TB : LamX.TabB base mg cd0 Pt) (hne : Pt ≠ Pk) : FnOk P w K mg base CX0 (k + 2) f fd ["pieces"] (spBy K Pt Pk) := by
  refine okC F hcd sc_by_coming (fun vs H Q E h => ?_) (fun A outer s H vs Q E hr h => ?_)
  · obtain ⟨a, xs, ps, rfl, _⟩ := h
    rfl
  · obtain ⟨a, xs, ps, rfl, hS, dx, l60, tbs, q⟩ := h
    have nd := sc_by_coming.nd
    have hmT : (Pt, qBy) ∈ TT Pt Pk := List.mem_cons_self
    have huT : ∀ p ∈ TT Pt Pk, p.1 = Pt → p.2 = qBy := fun p hp e => by
      rcases List.mem_cons.mp hp with z | z
      · rw [z]
      · rw [List.mem_singleton.mp z] at e
        exact absurd e.symm hne
    have lx : xs.length = ps.length := dpAll_map_len dx
    refine ⟨_, (pss_one (ps_ret (RLam.pe_sortLamP (io := 0) rfl (by rfl) T.sorted (pa_cons (pe_callTy RLam.cr_range1 (by rfl) T.range (by decide +kernel) (pa_cons (pe_callB (kc_len (K := K)) (by rfl) T.len PySem.boot_len (pa_cons (pv 0) pa_nil)) pa_nil)) pa_nil) TB rfl hmT huT hr ⟨rfl, rfl, rfl, by decide +kernel, rfl, rfl, up_by (sc := defScope s_by_coming) (by decide +kernel)⟩ rfl rfl (fun _ _ _ _ _ _ => rfl)))), ?_⟩
    refine ⟨_, rfl, _, _, rfl, .inl ⟨_, hS, rfl⟩, _, rfl, fun rp nrp => ?_⟩
    have sr := same_upd (o := .rng 0 (xs.length : Int)) nrp
    rw [lx] at sr ⊢
    refine ⟨rp, a, ps.length, xs, cmF ps, rfl, upd_same, Nat.le_trans l60 (by decide), tbs.ext sr, rfl, sr.seq hS, fun i hi => ?_, fun H4 x4 tbs4 q0 nq0 => ?_⟩
    · obtain ⟨b, eb, hb, _⟩ := pcs_at (dpAll_same sr dx) (List.getElem?_eq_getElem (show i < xs.length by omega))
      exact ⟨b, _, by rw [List.getElem?_eq_getElem (show i < xs.length by omega), eb], hb, rfl⟩
    have s5 := same_upd (o := .lst ((ordF ps).map natV)) nq0
    replace x4 : LamX.ExtN H H4 := (LamX.ExtN.of sr).trans x4
    refine q _ q0 (x4.trans (.of s5)) (tbs4.ext s5) (fun x u e nt z => ?_) upd_same
    have := x4 x u e nt
    rw [z, nq0] at this
    cases this
theorem nodup_leG {α : Type} [DecidableEq α] : ∀ {l ts : List α}, l.Nodup → (∀ x ∈ l, x ∈ ts) → l.length ≤ ts.length
  | [], _, _, _ => Nat.zero_le _
  | x :: l, ts, nd, h => by
    have hx := h x List.mem_cons_self
    obtain ⟨n1, n2⟩ := List.nodup_cons.mp nd
    have h1 : l.length ≤ (ts.erase x).length := nodup_leG n2 fun y hy => by
      have ne : y ≠ x := fun e => n1 (e ▸ hy)
      exact (List.mem_erase_of_ne ne).mpr (h y (List.mem_cons_of_mem x hy))
    have h2 := List.length_erase_of_mem hx
    have h3 := List.length_pos_of_mem hx
    rw [List.length_cons]
    omega
theorem inV_nats (j : Nat) : ∀ ts : List Nat, inV (natV j) (ts.map natV) = decide (j ∈ ts)
  | [] => rfl
  | x :: zs => by
    have ih := inV_nats j zs
    unfold inV at ih ⊢
    rw [List.map_cons, List.any_cons, ih, Bool.eq_iff_iff, Bool.or_eq_true, decide_eq_true_eq, decide_eq_true_eq, List.mem_cons]
    refine or_congr ?_ Iff.rfl
    show decide ((x : Int) = (j : Int)) = true ↔ _
    rw [decide_eq_true_eq]
    constructor
    · intro e; omega
    · intro e; omega
theorem flat_nats : ∀ ts : List Nat, (ts.map natV).all flatV = true
  | [] => rfl
  | _ :: zs => by rw [List.map_cons, List.all_cons, flat_nats zs]; rfl
theorem pcs_ext {H H' : Hp} (s : LamX.ExtN H H') : ∀ {ps : List Pc} {xs : List V}, DpAll K H xs (ps.map pcD) → DpAll K H' xs (ps.map pcD)
  | [], _, h => by
    cases h
    exact .nil
  | p :: ps, _, h => by
    cases h with
    | cons a r =>
      obtain ⟨t, rfl, ht⟩ := pc_dp a
      exact .cons (.tup (RLam.sqT_ext ht s) (.cons (.int _) (.cons (.int _) .nil))) (pcs_ext s r)
theorem ordF_perm (ps : List Pc) : (ordF ps).Perm (List.range ps.length) := List.mergeSort_perm ..
theorem ordF_mem {ps : List Pc} {p : Nat} : p ∈ ordF ps ↔ p < ps.length := by rw [(ordF_perm ps).mem_iff, List.mem_range]
theorem ordF_nodup (ps : List Pc) : (ordF ps).Nodup := (ordF_perm ps).nodup_iff.mpr List.nodup_range
theorem ordF_len (ps : List Pc) : (ordF ps).length = ps.length := by rw [(ordF_perm ps).length_eq, List.length_range]
/-- comes first, or with it and of lesser number -/
def RO (ps : List Pc) (i j : Nat) : Prop := cmF ps i < cmF ps j ∨ (cmF ps i = cmF ps j ∧ i < j)
theorem ordF_RO (ps : List Pc) : (ordF ps).Pairwise (RO ps) := by
  have h := List.pairwise_mergeSort (le := fun i j : Nat => decide (cmF ps i < cmF ps j ∨ (cmF ps i = cmF ps j ∧ (i : Int) ≤ (j : Int)))) (fun a b c h1 h2 => by simp only [decide_eq_true_eq] at h1 h2 ⊢; omega) (fun a b => by simp only [Bool.or_eq_true, decide_eq_true_eq]; omega) (List.range ps.length)
  have h : (ordF ps).Pairwise fun i j => decide (cmF ps i < cmF ps j ∨ (cmF ps i = cmF ps j ∧ (i : Int) ≤ (j : Int))) = true := h
  have nd : (ordF ps).Pairwise fun i j => i ≠ j := ordF_nodup ps
  refine (h.and nd).imp fun {i j} z => ?_
  have z1 := of_decide_eq_true z.1
  have z2 := z.2
  unfold RO
  omega
def outF (ps : List Pc) (p : Nat) : Int := (ps.getD p pc0).1 + (ps.getD p pc0).2

end
end Pot

namespace Pot
open PySem PySem.Spec PyProof.Rows L2

section
variable {P : Program} {w : World} {K : PySem.W.Frag} {mg : Str → Option Value} {base : Heap}
/-! ### what is kept: the last one that goes out is put out -/
def innF (ps : List Pc) (h : Int) (x : Nat) : Bool := inB (ps.getD x pc0) h
def insF (ps : List Pc) (K : List Nat) (h : Int) : List Nat := K.filter (innF ps h)
/-- the first of those that go out last -/
def topF (ps : List Pc) (l : List Nat) : Nat := (l.find? fun x => l.all fun y => decide (outF ps y ≤ outF ps x)).getD 0
def stepK (ps : List Pc) (sl : Nat) (K : List Nat) (p : Nat) : List Nat := if sl < (insF ps (K ++ [p]) (cmF ps p)).length then (K ++ [p]).erase (topF ps (insF ps (K ++ [p]) (cmF ps p))) else K ++ [p]
def keptF (ps : List Pc) (sl : Nat) : List Nat := (ordF ps).foldl (stepK ps sl) []
theorem top_at {ps : List Pc} {l : List Nat} {i x : Nat} (g : l[i]? = some x) (h : ∀ j y, l[j]? = some y → outF ps y ≤ outF ps x ∧ (j < i → outF ps y < outF ps x)) : topF ps l = x := by
  unfold topF
  have e : (l.find? fun x => l.all fun y => decide (outF ps y ≤ outF ps x)) = some x := by
    obtain ⟨hi, gx⟩ := List.getElem?_eq_some_iff.mp g
    refine List.find?_eq_some_iff_append.mpr ⟨?_, l.take i, l.drop (i + 1), ?_, fun y hy => ?_⟩
    · refine List.all_eq_true.mpr fun y hy => decide_eq_true ?_
      obtain ⟨j, hj⟩ := List.getElem?_of_mem hy
      exact (h j y hj).1
    · rw [← gx, ← List.drop_eq_getElem_cons hi, List.take_append_drop]
    · obtain ⟨j, hj⟩ := List.getElem?_of_mem hy
      have jl : j < i := by
        have := (List.getElem?_eq_some_iff.mp hj).1
        rw [List.length_take] at this; omega
      rw [List.getElem?_take_of_lt jl] at hj
      have := (h j y hj).2 jl
      rw [Bool.not_eq_true', Bool.eq_false_iff]
      intro z
      have := of_decide_eq_true (List.all_eq_true.mp z x (List.mem_of_getElem? g))
      omega
  rw [e]; rfl
theorem top_of {ps : List Pc} {l : List Nat} (ne : l ≠ []) : topF ps l ∈ l ∧ ∀ y ∈ l, outF ps y ≤ outF ps (topF ps l) := by
  have lp := List.length_pos_iff.mpr ne
  obtain ⟨g1, g2⟩ := RLam.argBest_gt (fun j => outF ps (l.getD j 0)) (l.length - 1)
  generalize argBest (fun i j => decide (outF ps (l.getD i 0) > outF ps (l.getD j 0))) (l.length - 1) = i at g1 g2
  have hi : i < l.length := by omega
  have gi := List.getElem?_eq_getElem hi
  have gd : ∀ {j y}, l[j]? = some y → l.getD j 0 = y := fun {j y} e => by rw [List.getD_eq_getElem?_getD, e]; rfl
  have e := top_at (ps := ps) gi fun j y hj => by
    have jl := (List.getElem?_eq_some_iff.mp hj).1
    have := g2 j (by omega)
    rw [gd hj, gd gi] at this
    exact this
  rw [e]
  refine ⟨List.getElem_mem hi, fun y hy => ?_⟩
  obtain ⟨j, hj⟩ := List.getElem?_of_mem hy
  have jl := (List.getElem?_eq_some_iff.mp hj).1
  have := (g2 j (by omega)).1
  rw [gd hj, gd gi] at this
  exact this
/-- at none of these hours -/
def noneF (ps : List Pc) (Hs : List Int) (x : Nat) : Bool := Hs.all fun h => !innF ps h x
def leF (ps : List Pc) (b : Int) (x : Nat) : Bool := decide (outF ps x ≤ b)
theorem inn_iff {ps : List Pc} {h : Int} {x : Nat} : innF ps h x = true ↔ cmF ps x ≤ h ∧ h < outF ps x := by
  unfold innF inB
  rw [Bool.and_eq_true, decide_eq_true_eq, decide_eq_true_eq]; exact Iff.rfl
theorem inn_not {ps : List Pc} {h : Int} {x : Nat} : innF ps h x = false ↔ h < cmF ps x ∨ outF ps x ≤ h := by
  rw [← Bool.not_eq_true, inn_iff]; omega
theorem le_iff {ps : List Pc} {b : Int} {x : Nat} : leF ps b x = true ↔ outF ps x ≤ b := by unfold leF; rw [decide_eq_true_eq]
theorem none_iff {ps : List Pc} {Hs : List Int} {x : Nat} : noneF ps Hs x = true ↔ ∀ h ∈ Hs, innF ps h x = false := by
  unfold noneF
  rw [List.all_eq_true]
  exact forall_congr' fun h => forall_congr' fun _ => by rw [Bool.not_eq_true']
theorem cnt_congr {l : List Nat} {f g : Nat → Bool} (h : ∀ x ∈ l, f x = g x) : l.countP f = l.countP g := by
  induction l with
  | nil => rfl
  | cons x l ih =>
    rw [List.countP_cons, List.countP_cons, ih (fun y hy => h y (List.mem_cons_of_mem _ hy)), h x List.mem_cons_self]
theorem cnt_split (l : List Nat) (f g : Nat → Bool) : l.countP f = l.countP (fun x => f x && g x) + l.countP (fun x => f x && !g x) := by
  induction l with
  | nil => rfl
  | cons x l ih =>
    rw [List.countP_cons, List.countP_cons, List.countP_cons, ih]
    cases f x <;> cases g x <;> simp <;> omega
theorem cnt_le {l : List Nat} {f g : Nat → Bool} (h : ∀ x ∈ l, f x = true → g x = true) : l.countP f ≤ l.countP g := by
  induction l with
  | nil => exact Nat.le_refl _
  | cons x l ih =>
    rw [List.countP_cons, List.countP_cons]
    have := ih fun y hy => h y (List.mem_cons_of_mem _ hy)
    have hx := h x List.mem_cons_self
    cases e : f x
    · simp; omega
    · rw [hx e]; simp; omega
theorem cnt_snoc (l : List Nat) (p : Nat) (f : Nat → Bool) : (l ++ [p]).countP f = l.countP f + (if f p = true then 1 else 0) := by
  rw [List.countP_append, List.countP_cons, List.countP_nil, Nat.zero_add]
theorem cnt_erase {l : List Nat} {d : Nat} (hd : d ∈ l) (f : Nat → Bool) : l.countP f = (l.erase d).countP f + (if f d = true then 1 else 0) := by
  have := (List.perm_cons_erase hd).countP_eq f
  rw [this, List.countP_cons]
theorem cnt_snocF (l : List Nat) {p : Nat} {f : Nat → Bool} (h : f p = false) : (l ++ [p]).countP f = l.countP f := by rw [cnt_snoc, h, if_neg Bool.false_ne_true, Nat.add_zero]
theorem cnt_snocT (l : List Nat) {p : Nat} {f : Nat → Bool} (h : f p = true) : (l ++ [p]).countP f = l.countP f + 1 := by rw [cnt_snoc, h, if_pos rfl]
theorem cnt_eraseF {l : List Nat} {d : Nat} (hd : d ∈ l) {f : Nat → Bool} (h : f d = false) : l.countP f = (l.erase d).countP f := by rw [cnt_erase hd, h, if_neg Bool.false_ne_true, Nat.add_zero]
theorem cnt_eraseT {l : List Nat} {d : Nat} (hd : d ∈ l) {f : Nat → Bool} (h : f d = true) : l.countP f = (l.erase d).countP f + 1 := by rw [cnt_erase hd, h, if_pos rfl]
theorem and_r {a b : Bool} (h : b = false) : (a && b) = false := by rw [h, Bool.and_false]
/-- of what is kept of L -/
structure KInv (ps : List Pc) (sl : Nat) (L K : List Nat) : Prop where
  sub : ∀ x ∈ K, x ∈ L
  nd : K.Nodup
  fit : ∀ h, K.countP (innF ps h) ≤ sl
  dual : ∀ b : Int, ∃ Hs : List Int, Hs.Pairwise (· < ·) ∧ (∀ h ∈ Hs, h < b ∧ (∃ q ∈ L, cmF ps q = h) ∧ sl ≤ K.countP fun x => innF ps h x && leF ps b x) ∧
    sl * Hs.length + L.countP (fun x => leF ps b x && noneF ps Hs x) = K.countP (leF ps b)
theorem kinv_nil {ps : List Pc} {sl : Nat} : KInv ps sl [] [] := ⟨fun x h => h, .nil, fun h => Nat.zero_le _, fun b => ⟨[], .nil, fun h hh => (List.not_mem_nil hh).elim, rfl⟩⟩
theorem inn_late {ps : List Pc} {h c : Int} {x : Nat} (hx : cmF ps x ≤ c) (hc : c ≤ h) (i : innF ps h x = true) : innF ps c x = true := by
  have := inn_iff.mp i
  exact inn_iff.mpr ⟨hx, by omega⟩
theorem kinv_step {ps : List Pc} {sl : Nat} {L K : List Nat} {p : Nat} (I : KInv ps sl L K) (hp : p ∉ L) (hL : ∀ q ∈ L, cmF ps q ≤ cmF ps p) (pos : cmF ps p < outF ps p) : KInv ps sl (L ++ [p]) (stepK ps sl K p) := by
  have hK : ∀ q ∈ K, cmF ps q ≤ cmF ps p := fun q hq => hL q (I.sub q hq)
  have nd1 : (K ++ [p]).Nodup := List.nodup_append.mpr ⟨I.nd, List.nodup_cons.mpr ⟨List.not_mem_nil, .nil⟩, fun a ha b hb e => by
    rw [List.mem_singleton.mp hb] at e
    exact hp (e ▸ I.sub a ha)⟩
  have sub1 : ∀ x ∈ K ++ [p], x ∈ L ++ [p] := fun x hx => by
    rcases List.mem_append.mp hx with h | h
    · exact List.mem_append_left _ (I.sub x h)
    · exact List.mem_append_right _ h
  have hK1 : ∀ q ∈ K ++ [p], cmF ps q ≤ cmF ps p := fun q hq => by
    rcases List.mem_append.mp hq with h | h
    · exact hK q h
    · rw [List.mem_singleton.mp h]; exact Int.le_refl _
  have hL1 : ∀ q ∈ L ++ [p], cmF ps q ≤ cmF ps p := fun q hq => by
    rcases List.mem_append.mp hq with h | h
    · exact hL q h
    · rw [List.mem_singleton.mp h]; exact Int.le_refl _
  have pin : innF ps (cmF ps p) p = true := inn_iff.mpr ⟨Int.le_refl _, pos⟩
  have el : (insF ps (K ++ [p]) (cmF ps p)).length = (K ++ [p]).countP (innF ps (cmF ps p)) := by unfold insF; rw [List.countP_eq_length_filter]
  have n1 := cnt_snocT K pin
  have fc := I.fit (cmF ps p)
  unfold stepK
  by_cases c : sl < (insF ps (K ++ [p]) (cmF ps p)).length
  · rw [if_pos c]
    rw [el] at c
    have ne : insF ps (K ++ [p]) (cmF ps p) ≠ [] := fun z => by rw [z] at el; have el : 0 = (K ++ [p]).countP (innF ps (cmF ps p)) := el; omega
    obtain ⟨d1, d2⟩ := top_of (ps := ps) ne
    generalize topF ps (insF ps (K ++ [p]) (cmF ps p)) = d at d1 d2
    unfold insF at d1 d2
    obtain ⟨dK, din⟩ := List.mem_filter.mp d1
    obtain ⟨dle, dle2⟩ := inn_iff.mp din
    have subE : ∀ x ∈ (K ++ [p]).erase d, x ∈ K ++ [p] := fun x hx => List.mem_of_mem_erase hx
    have ec := cnt_eraseT dK din
    have topI : ∀ x ∈ (K ++ [p]).erase d, innF ps (cmF ps p) x = true → outF ps x ≤ outF ps d := fun x hx i => d2 x (List.mem_filter.mpr ⟨subE x hx, i⟩)
    refine ⟨fun x hx => sub1 x (subE x hx), nd1.erase d, fun h => ?_, fun b => ?_⟩
    · by_cases hc : cmF ps p ≤ h
      · have := cnt_le (l := (K ++ [p]).erase d) (f := innF ps h) (g := innF ps (cmF ps p)) fun x hx i => inn_late (hK1 x (subE x hx)) hc i
        omega
      · have e1 := cnt_erase dK (innF ps h)
        have e2 := cnt_snocF K (show innF ps h p = false from inn_not.mpr (.inl (by omega)))
        have := I.fit h
        omega
    · by_cases hb : outF ps d ≤ b
      · obtain ⟨Hs, h1, h2, h3⟩ := I.dual (cmF ps p)
        have pout : leF ps (cmF ps p) p = false := Bool.eq_false_iff.mpr fun z => by have := le_iff.mp z; omega
        have dout : leF ps (cmF ps p) d = false := Bool.eq_false_iff.mpr fun z => by have := le_iff.mp z; omega
        refine ⟨Hs ++ [cmF ps p], List.pairwise_append.mpr ⟨h1, List.pairwise_singleton .., fun a ha b hb => by rw [List.mem_singleton.mp hb]; exact (h2 a ha).1⟩, fun h hh => ?_, ?_⟩
        · rcases List.mem_append.mp hh with z | z
          · obtain ⟨a1, ⟨q, hq, eq⟩, a3⟩ := h2 h z
            refine ⟨by omega, ⟨q, List.mem_append_left _ hq, eq⟩, ?_⟩
            have e1 := cnt_eraseF dK (f := fun x => innF ps h x && leF ps (cmF ps p) x) (and_r dout)
            have e2 := cnt_snocF K (f := fun x => innF ps h x && leF ps (cmF ps p) x) (and_r pout)
            have := cnt_le (l := (K ++ [p]).erase d) (f := fun x => innF ps h x && leF ps (cmF ps p) x) (g := fun x => innF ps h x && leF ps b x) fun x _ i => by
              rw [Bool.and_eq_true] at i ⊢
              exact ⟨i.1, le_iff.mpr (by have := le_iff.mp i.2; omega)⟩
            omega
          · rw [List.mem_singleton.mp z]
            refine ⟨by omega, ⟨p, List.mem_append_right _ List.mem_cons_self, rfl⟩, ?_⟩
            have := cnt_le (l := (K ++ [p]).erase d) (f := innF ps (cmF ps p)) (g := fun x => innF ps (cmF ps p) x && leF ps b x) fun x hx i => by
              rw [Bool.and_eq_true]
              exact ⟨i, le_iff.mpr (by have := topI x hx i; omega)⟩
            omega
        · have pz : (leF ps b p && noneF ps (Hs ++ [cmF ps p]) p) = false := by
            rw [Bool.and_eq_false_iff]
            right
            rw [← Bool.not_eq_true, none_iff]
            intro z
            have := z _ (List.mem_append_right _ List.mem_cons_self)
            rw [pin] at this; cases this
          rw [List.length_append, cnt_snocF L (f := fun x => leF ps b x && noneF ps (Hs ++ [cmF ps p]) x) pz]
          have e1 : L.countP (fun x => leF ps b x && noneF ps (Hs ++ [cmF ps p]) x) = L.countP (fun x => leF ps (cmF ps p) x && noneF ps Hs x) := cnt_congr fun x hx => by
            have hx := hL x hx
            rw [Bool.eq_iff_iff, Bool.and_eq_true, Bool.and_eq_true, le_iff, le_iff, none_iff, none_iff]
            constructor
            · rintro ⟨z1, z2⟩
              have := inn_not.mp (z2 _ (List.mem_append_right _ List.mem_cons_self))
              exact ⟨by omega, fun h hh => z2 h (List.mem_append_left _ hh)⟩
            · rintro ⟨z1, z2⟩
              refine ⟨by omega, fun h hh => ?_⟩
              rcases List.mem_append.mp hh with y | y
              · exact z2 h y
              · rw [List.mem_singleton.mp y]; exact inn_not.mpr (.inr z1)
          have e2 := cnt_split ((K ++ [p]).erase d) (leF ps b) (leF ps (cmF ps p))
          have e3 : ((K ++ [p]).erase d).countP (fun x => leF ps b x && leF ps (cmF ps p) x) = ((K ++ [p]).erase d).countP (leF ps (cmF ps p)) := cnt_congr fun x _ => by
            rw [Bool.eq_iff_iff, Bool.and_eq_true, le_iff, le_iff]
            omega
          have e4 : ((K ++ [p]).erase d).countP (fun x => leF ps b x && !leF ps (cmF ps p) x) = ((K ++ [p]).erase d).countP (innF ps (cmF ps p)) := cnt_congr fun x hx => by
            have hx1 := hK1 x (subE x hx)
            rw [Bool.eq_iff_iff, Bool.and_eq_true, le_iff, Bool.not_eq_true', ← Bool.not_eq_true, le_iff, inn_iff]
            constructor
            · rintro ⟨z1, z2⟩; exact ⟨hx1, by omega⟩
            · intro z
              have := topI x hx (inn_iff.mpr z)
              omega
          have e5 := cnt_eraseF dK dout
          have e6 := cnt_snocF K pout
          have e7 : sl * (Hs.length + [cmF ps p].length) = sl * Hs.length + sl := by show sl * (Hs.length + 1) = _; rw [Nat.mul_add, Nat.mul_one]
          rw [e1, e7]
          omega
      · obtain ⟨Hs, h1, h2, h3⟩ := I.dual b
        have dz : leF ps b d = false := by rw [← Bool.not_eq_true, le_iff]; omega
        have e1 := cnt_eraseF dK dz
        have low : ∀ f : Nat → Bool, K.countP (fun x => f x && leF ps b x) ≤ ((K ++ [p]).erase d).countP (fun x => f x && leF ps b x) := fun f => by
          have e1 := cnt_eraseF dK (f := fun x => f x && leF ps b x) (and_r dz)
          have e2 := cnt_snoc K p fun x => f x && leF ps b x
          omega
        refine ⟨Hs, h1, fun h hh => ?_, ?_⟩
        · obtain ⟨a1, ⟨q, hq, eq⟩, a3⟩ := h2 h hh
          have := low (innF ps h)
          exact ⟨a1, ⟨q, List.mem_append_left _ hq, eq⟩, by omega⟩
        · by_cases hpb : outF ps p ≤ b
          · have pz : leF ps b p = true := le_iff.mpr hpb
            have e2 := cnt_snocT K pz
            have cn : cmF ps p ∉ Hs := fun hh => by
              have a3 := (h2 _ hh).2.2
              have s1 := cnt_split (K ++ [p]) (innF ps (cmF ps p)) (leF ps b)
              have s2 := cnt_snocT K (p := p) (f := fun x => innF ps (cmF ps p) x && leF ps b x) (by show (_ && _) = _; rw [pin, pz]; rfl)
              have s3 : 0 < (K ++ [p]).countP fun x => innF ps (cmF ps p) x && !leF ps b x := List.countP_pos_iff.mpr ⟨d, dK, by rw [din, dz]; rfl⟩
              omega
            have pn : noneF ps Hs p = true := none_iff.mpr fun h hh => by
              obtain ⟨_, ⟨q, hq, eq⟩, _⟩ := h2 h hh
              have := hL q hq
              exact inn_not.mpr (.inl (by
                rcases Int.lt_or_eq_of_le (show h ≤ cmF ps p by omega) with z | z
                · exact z
                · exact absurd hh (z ▸ cn)))
            rw [cnt_snocT L (p := p) (f := fun x => leF ps b x && noneF ps Hs x) (by show (_ && _) = _; rw [pz, pn]; rfl)]
            omega
          · have pz : leF ps b p = false := by rw [← Bool.not_eq_true, le_iff]; omega
            have e2 := cnt_snocF K pz
            rw [cnt_snocF L (p := p) (f := fun x => leF ps b x && noneF ps Hs x) (by show (_ && _) = _; rw [pz]; rfl)]
            omega
  · rw [if_neg c]
    rw [el] at c
    refine ⟨sub1, nd1, fun h => ?_, fun b => ?_⟩
    · by_cases hc : cmF ps p ≤ h
      · have := cnt_le (l := K ++ [p]) (f := innF ps h) (g := innF ps (cmF ps p)) fun x hx i => inn_late (hK1 x hx) hc i
        omega
      · have e2 := cnt_snocF K (show innF ps h p = false from inn_not.mpr (.inl (by omega)))
        have := I.fit h
        omega
    · obtain ⟨Hs, h1, h2, h3⟩ := I.dual b
      refine ⟨Hs, h1, fun h hh => ?_, ?_⟩
      · obtain ⟨a1, ⟨q, hq, eq⟩, a3⟩ := h2 h hh
        have := cnt_snoc K p fun x => innF ps h x && leF ps b x
        exact ⟨a1, ⟨q, List.mem_append_left _ hq, eq⟩, by omega⟩
      · by_cases hpb : outF ps p ≤ b
        · have pz : leF ps b p = true := le_iff.mpr hpb
          have e2 := cnt_snocT K pz
          have cn : cmF ps p ∉ Hs := fun hh => by
            have a3 := (h2 _ hh).2.2
            have := cnt_le (l := K) (f := fun x => innF ps (cmF ps p) x && leF ps b x) (g := innF ps (cmF ps p)) fun x _ i => by
              rw [Bool.and_eq_true] at i; exact i.1
            omega
          have pn : noneF ps Hs p = true := none_iff.mpr fun h hh => by
            obtain ⟨_, ⟨q, hq, eq⟩, _⟩ := h2 h hh
            have := hL q hq
            exact inn_not.mpr (.inl (by
              rcases Int.lt_or_eq_of_le (show h ≤ cmF ps p by omega) with z | z
              · exact z
              · exact absurd hh (z ▸ cn)))
          rw [cnt_snocT L (p := p) (f := fun x => leF ps b x && noneF ps Hs x) (by show (_ && _) = _; rw [pz, pn]; rfl)]
          omega
        · have pz : leF ps b p = false := by rw [← Bool.not_eq_true, le_iff]; omega
          have e2 := cnt_snocF K pz
          rw [cnt_snocF L (p := p) (f := fun x => leF ps b x && noneF ps Hs x) (by show (_ && _) = _; rw [pz]; rfl)]
          omega
theorem kinv_fold {ps : List Pc} {sl : Nat} (pos : ∀ p, p < ps.length → cmF ps p < outF ps p) : ∀ {l L K : List Nat}, KInv ps sl L K → (L ++ l).Pairwise (RO ps) → (∀ p ∈ l, p < ps.length) → KInv ps sl (L ++ l) (l.foldl (stepK ps sl) K)
  | [], L, K, I, _, _ => by rw [List.append_nil]; exact I
  | p :: l, L, K, I, pw, hl => by
    obtain ⟨w1, w2, w3⟩ := List.pairwise_append.mp pw
    have J := kinv_step I (p := p) (fun z => by have := w3 p z p List.mem_cons_self; unfold RO at this; omega) (fun q hq => by have := w3 q hq p List.mem_cons_self; unfold RO at this; omega) (pos p (hl p List.mem_cons_self))
    have := kinv_fold pos (l := l) J (by rw [List.append_assoc]; exact pw) fun q hq => hl q (List.mem_cons_of_mem _ hq)
    rw [List.append_assoc] at this
    exact this
theorem kept_inv {ps : List Pc} (sl : Nat) (pos : ∀ p, p < ps.length → cmF ps p < outF ps p) : KInv ps sl (ordF ps) (keptF ps sl) := kinv_fold pos (L := []) kinv_nil (ordF_RO ps) fun p hp => ordF_mem.mp hp
/-- how many fit at most, by these hours -/
def bndF (ps : List Pc) (sl : Nat) (Hs : List Int) : Nat := sl * Hs.length + (List.range ps.length).countP (noneF ps Hs)
theorem big_out {ps : List Pc} : ∃ b, ∀ x, x < ps.length → outF ps x ≤ b := by
  have : ∀ l : List Nat, ∃ b, ∀ x ∈ l, outF ps x ≤ b := fun l => by
    induction l with
    | nil => exact ⟨0, fun x h => (List.not_mem_nil h).elim⟩
    | cons y l ih =>
      obtain ⟨b, h⟩ := ih
      refine ⟨max b (outF ps y), fun x hx => ?_⟩
      rcases List.mem_cons.mp hx with e | e
      · rw [e]; omega
      · have := h x e; omega
  obtain ⟨b, h⟩ := this (List.range ps.length)
  exact ⟨b, fun x hx => h x (List.mem_range.mpr hx)⟩
theorem kept_dual {ps : List Pc} (sl : Nat) (pos : ∀ p, p < ps.length → cmF ps p < outF ps p) : ∃ Hs : List Int, Hs.Pairwise (· < ·) ∧ (∀ h ∈ Hs, h ∈ ps.map (·.1)) ∧ bndF ps sl Hs = (keptF ps sl).length := by
  have I := kept_inv sl pos
  obtain ⟨b, hb⟩ := big_out (ps := ps)
  obtain ⟨Hs, h1, h2, h3⟩ := I.dual b
  refine ⟨Hs, h1, fun h hh => ?_, ?_⟩
  · obtain ⟨_, ⟨q, hq, rfl⟩, _⟩ := h2 h hh
    have := ordF_mem.mp hq
    refine List.mem_map.mpr ⟨ps.getD q pc0, ?_, rfl⟩
    rw [List.getD_eq_getElem?_getD, List.getElem?_eq_getElem this]
    exact List.getElem_mem this
  · unfold bndF
    rw [← (ordF_perm ps).countP_eq]
    have e1 : (ordF ps).countP (noneF ps Hs) = (ordF ps).countP fun x => leF ps b x && noneF ps Hs x := cnt_congr fun x hx => by
      rw [le_iff.mpr (hb x (ordF_mem.mp hx))]; rfl
    have e2 : (keptF ps sl).countP (leF ps b) = (keptF ps sl).length := List.countP_eq_length.mpr fun x hx => le_iff.mpr (hb x (ordF_mem.mp (I.sub x hx)))
    rw [e1, h3, e2]
theorem max_at {l : List Nat} (f : Nat → Int) (ne : l ≠ []) : ∃ x ∈ l, ∀ y ∈ l, f y ≤ f x := by
  induction l with
  | nil => exact absurd rfl ne
  | cons a l ih =>
    by_cases e : l = []
    · subst e
      exact ⟨a, List.mem_cons_self, fun y hy => by rw [List.mem_singleton.mp hy]; exact Int.le_refl _⟩
    · obtain ⟨x, hx, h⟩ := ih e
      by_cases c : f x ≤ f a
      · refine ⟨a, List.mem_cons_self, fun y hy => ?_⟩
        rcases List.mem_cons.mp hy with z | z
        · rw [z]; exact Int.le_refl _
        · have := h y z; omega
      · refine ⟨x, List.mem_cons_of_mem _ hx, fun y hy => ?_⟩
        rcases List.mem_cons.mp hy with z | z
        · rw [z]; omega
        · exact h y z
/-- these fit: as each one comes not too many are in -/
def FitF (ps : List Pc) (sl : Nat) (S : List Nat) : Prop := ∀ p ∈ S, S.countP (innF ps (cmF ps p)) ≤ sl
theorem fit_all {ps : List Pc} {sl : Nat} {S : List Nat} (F : FitF ps sl S) (h : Int) : S.countP (innF ps h) ≤ sl := by
  by_cases e : S.filter (innF ps h) = []
  · rw [List.countP_eq_length_filter, e]; exact Nat.zero_le _
  · obtain ⟨x, hx, hm⟩ := max_at (cmF ps) e
    obtain ⟨x1, x2⟩ := List.mem_filter.mp hx
    refine Nat.le_trans (cnt_le fun y hy i => ?_) (F x x1)
    have := hm y (List.mem_filter.mpr ⟨hy, i⟩)
    exact inn_late this (inn_iff.mp x2).1 i
theorem any_le {ps : List Pc} {sl : Nat} {S : List Nat} (F : ∀ h, S.countP (innF ps h) ≤ sl) : ∀ Hs : List Int, S.countP (fun x => !noneF ps Hs x) ≤ sl * Hs.length
  | [] => by
    rw [List.countP_eq_zero.mpr fun x _ => by unfold noneF; simp]
    exact Nat.zero_le _
  | h :: Hs => by
    have ih := any_le F Hs
    have e := cnt_split S (fun x => !noneF ps (h :: Hs) x) (innF ps h)
    have e1 := cnt_le (l := S) (f := fun x => !noneF ps (h :: Hs) x && innF ps h x) (g := innF ps h) fun x _ i => (Bool.and_eq_true _ _ ▸ i).2
    have e2 := cnt_le (l := S) (f := fun x => !noneF ps (h :: Hs) x && !innF ps h x) (g := fun x => !noneF ps Hs x) fun x _ i => by
      unfold noneF at i ⊢
      rw [List.all_cons] at i
      cases z : innF ps h x <;> rw [z] at i <;> simp at i ⊢ <;> exact i
    have := F h
    rw [List.length_cons, Nat.mul_add, Nat.mul_one]
    omega
theorem weakF {ps : List Pc} {sl : Nat} {S : List Nat} (nd : S.Nodup) (hS : ∀ x ∈ S, x < ps.length) (F : ∀ h, S.countP (innF ps h) ≤ sl) (Hs : List Int) : S.length ≤ bndF ps sl Hs := by
  have e := List.length_eq_countP_add_countP (noneF ps Hs) (l := S)
  have e1 := any_le F Hs
  have e2 : S.countP (noneF ps Hs) ≤ (List.range ps.length).countP (noneF ps Hs) := by
    rw [List.countP_eq_length_filter, List.countP_eq_length_filter]
    refine nodup_leG (nd.sublist List.filter_sublist) fun x hx => ?_
    obtain ⟨x1, x2⟩ := List.mem_filter.mp hx
    exact List.mem_filter.mpr ⟨List.mem_range.mpr (hS x x1), x2⟩
  have e3 : S.countP (fun x => decide ¬noneF ps Hs x = true) = S.countP (fun x => !noneF ps Hs x) := cnt_congr fun x _ => by cases noneF ps Hs x <;> rfl
  unfold bndF
  rw [e3] at e
  omega
theorem kept_fit {ps : List Pc} (sl : Nat) (pos : ∀ p, p < ps.length → cmF ps p < outF ps p) : (keptF ps sl).Nodup ∧ (∀ x ∈ keptF ps sl, x < ps.length) ∧ ∀ h, (keptF ps sl).countP (innF ps h) ≤ sl := by
  have I := kept_inv sl pos
  exact ⟨I.nd, fun x hx => ordF_mem.mp (I.sub x hx), I.fit⟩

/-! ### the hours that tell that no more fit -/
abbrev Ent := Int × List Int
def prD (e : Ent) : PyData := .tuple [.int e.1, .list (e.2.map PyData.int)]
def ltE (a b : Ent) : Bool := PySem.W.dataLt (prD a) (prD b)
def minE (x : Ent) (xs : List Ent) : Ent := xs.foldl (fun a y => if ltE y a = true then y else a) x
theorem minD_minE : ∀ (xs : List Ent) (x : Ent), PySem.W.minD (prD x) (xs.map prD) = prD (minE x xs)
  | [], x => rfl
  | y :: xs, x => by
    have ih := minD_minE xs (if ltE y x = true then y else x)
    unfold PySem.W.minD minE at ih ⊢
    rw [List.map_cons, List.foldl_cons, List.foldl_cons, ← ih]
    unfold ltE
    congr 1
    split <;> rfl
theorem alike_ints : ∀ xs ys : List Int, PySem.W.alikeAll (xs.map PyData.int) (ys.map PyData.int) = true
  | [], _ => by rw [List.map_nil, PySem.W.alikeAll]
  | x :: xs, [] => by rw [List.map_nil, List.map_cons]; rw [PySem.W.alikeAll]
  | x :: xs, y :: ys => by
    rw [List.map_cons, List.map_cons, PySem.W.alikeAll, alike_ints xs ys]; rfl
theorem alike_prD (a b : Ent) : PySem.W.alike (prD a) (prD b) = true := by
  unfold prD
  rw [PySem.W.alike, PySem.W.alikeAll, PySem.W.alikeAll, PySem.W.alike, PySem.W.alike, alike_ints, PySem.W.alikeAll]; rfl
theorem alikeAll_prD (l : List Ent) : PySem.W.AlikeAll (l.map prD) := ⟨fun x hx y hy => by
  obtain ⟨a, _, rfl⟩ := List.mem_map.mp hx
  obtain ⟨b, _, rfl⟩ := List.mem_map.mp hy
  exact alike_prD a b, fun x hx e => by
  obtain ⟨a, _, rfl⟩ := List.mem_map.mp hx
  cases e⟩
theorem ltE_lt {a b : Ent} (h : a.1 < b.1) : ltE a b = true := by
  unfold ltE prD
  rw [PySem.W.dataLt_pair rfl (by rw [PySem.W.alike]; exact alike_ints _ _), show PyData.eqv (.int a.1) (.int b.1) = false from decide_eq_false (by omega), if_neg Bool.false_ne_true, PySem.W.dataLt_int]
  exact decide_eq_true h
theorem ltE_not {a b : Ent} (h : b.1 < a.1) : ltE a b = false := by
  unfold ltE prD
  rw [PySem.W.dataLt_pair rfl (by rw [PySem.W.alike]; exact alike_ints _ _), show PyData.eqv (.int a.1) (.int b.1) = false from decide_eq_false (by omega), if_neg Bool.false_ne_true, PySem.W.dataLt_int]
  exact decide_eq_false (by omega)
theorem minE_is : ∀ (xs : List Ent) (x : Ent), minE x xs ∈ x :: xs ∧ ∀ y ∈ x :: xs, (minE x xs).1 ≤ y.1
  | [], x => ⟨List.mem_cons_self, fun y hy => by rw [List.mem_singleton.mp hy]; exact Int.le_refl _⟩
  | z :: xs, x => by
    obtain ⟨h1, h2⟩ := minE_is xs (if ltE z x = true then z else x)
    have e : minE x (z :: xs) = minE (if ltE z x = true then z else x) xs := rfl
    have lo : (if ltE z x = true then z else x).1 ≤ x.1 ∧ (if ltE z x = true then z else x).1 ≤ z.1 := by
      cases c : ltE z x with
      | true =>
        rw [if_pos rfl]
        refine ⟨?_, Int.le_refl _⟩
        refine Int.not_lt.mp fun l => ?_
        rw [ltE_not l] at c; cases c
      | false =>
        rw [if_neg Bool.false_ne_true]
        refine ⟨Int.le_refl _, ?_⟩
        refine Int.not_lt.mp fun l => ?_
        rw [ltE_lt l] at c; cases c
    rw [e]
    refine ⟨?_, fun y hy => ?_⟩
    · rcases List.mem_cons.mp h1 with q | q
      · rw [q]
        split
        · exact List.mem_cons_of_mem _ List.mem_cons_self
        · exact List.mem_cons_self
      · exact List.mem_cons_of_mem _ (List.mem_cons_of_mem _ q)
    · have hb := h2 _ List.mem_cons_self
      rcases List.mem_cons.mp hy with q | q
      · rw [q]; omega
      · rcases List.mem_cons.mp q with q | q
        · rw [q]; omega
        · exact h2 y (List.mem_cons_of_mem _ q)
/-- all out by then, and later than that -/
def agF (ps : List Pc) (a : Option Int) (x : Nat) : Bool := match a with
  | none => true
  | some a => decide (a < cmF ps x)
def bhF (ps : List Pc) (b : Option Int) (x : Nat) : Bool := match b with
  | none => true
  | some b => decide (outF ps x ≤ b)
def msF (ps : List Pc) (a b : Option Int) (x : Nat) : Bool := agF ps a x && bhF ps b x
def missF (ps : List Pc) (a b : Option Int) : Nat := (List.range ps.length).countP (msF ps a b)
def lastF (row : List Int) : Int := row.getLastD 0
theorem last_snoc (row : List Int) (h : Int) : lastF (row ++ [h]) = h := by unfold lastF; rw [List.getLastD_concat]
/-- what a row of hours costs up to its last hour -/
def preF (ps : List Pc) (sl : Nat) (row : List Int) : Nat := sl * row.length + (List.range ps.length).countP (fun x => leF ps (lastF row) x && noneF ps row x)
theorem pre_one {ps : List Pc} {sl : Nat} {h : Int} (pos : ∀ p, p < ps.length → cmF ps p < outF ps p) : preF ps sl [h] = sl + missF ps none (some h) := by
  unfold preF missF
  have e : lastF [h] = h := rfl
  rw [e, List.length_singleton, Nat.mul_one]
  refine congrArg (sl + ·) (cnt_congr fun x hx => ?_)
  have := pos x (List.mem_range.mp hx)
  unfold msF agF bhF
  rw [Bool.eq_iff_iff, Bool.and_eq_true, Bool.and_eq_true, le_iff, none_iff, decide_eq_true_eq]
  constructor
  · intro z; exact ⟨rfl, z.1⟩
  · intro z
    refine ⟨z.2, fun k hk => ?_⟩
    rw [List.mem_singleton.mp hk]; exact inn_not.mpr (.inr z.2)
theorem snoc_of {row : List Int} (ne : row ≠ []) : ∃ r a, row = r ++ [a] := ⟨_, _, (List.dropLast_concat_getLast ne).symm⟩
theorem last_max {row : List Int} (pw : row.Pairwise (· < ·)) : ∀ {h : Int}, h ∈ row → h ≤ lastF row := by
  intro h hh
  have ne : row ≠ [] := fun z => by rw [z] at hh; cases hh
  obtain ⟨r, a, rfl⟩ : ∃ r a, row = r ++ [a] := snoc_of ne
  rw [last_snoc]
  rcases List.mem_append.mp hh with z | z
  · have := (List.pairwise_append.mp pw).2.2 h z a List.mem_cons_self
    omega
  · rw [List.mem_singleton.mp z]; exact Int.le_refl _
theorem last_mem {row : List Int} (ne : row ≠ []) : lastF row ∈ row := by
  obtain ⟨r, a, rfl⟩ : ∃ r a, row = r ++ [a] := snoc_of ne
  rw [last_snoc]
  exact List.mem_append_right _ List.mem_cons_self
/-- those of a row, by whether they lie behind its last hour -/
theorem none_split {ps : List Pc} {row : List Int} (pw : row.Pairwise (· < ·)) (ne : row ≠ []) {x : Nat} (hx : cmF ps x < outF ps x) : noneF ps row x = (leF ps (lastF row) x && noneF ps row x || decide (lastF row < cmF ps x)) := by
  rw [Bool.eq_iff_iff, Bool.or_eq_true, Bool.and_eq_true, le_iff, none_iff, decide_eq_true_eq]
  constructor
  · intro z
    rcases inn_not.mp (z _ (last_mem ne)) with y | y
    · exact .inr y
    · exact .inl ⟨y, z⟩
  · rintro (z | z)
    · exact z.2
    · intro h hh
      have := last_max pw hh
      exact inn_not.mpr (.inl (by omega))
theorem cnt_or {l : List Nat} {f g : Nat → Bool} (h : ∀ x ∈ l, f x = true → g x = false) : l.countP (fun x => f x || g x) = l.countP f + l.countP g := by
  induction l with
  | nil => rfl
  | cons x l ih =>
    rw [List.countP_cons, List.countP_cons, List.countP_cons, ih (fun y hy => h y (List.mem_cons_of_mem _ hy))]
    have := h x List.mem_cons_self
    cases e : f x <;> cases e2 : g x <;> simp <;> first | omega | (rw [this e] at e2; cases e2)
theorem pre_snoc {ps : List Pc} {sl : Nat} {row : List Int} {h : Int} (pos : ∀ p, p < ps.length → cmF ps p < outF ps p) (pw : row.Pairwise (· < ·)) (ne : row ≠ []) (hh : lastF row < h) : preF ps sl (row ++ [h]) = sl + preF ps sl row + missF ps (some (lastF row)) (some h) := by
  unfold preF missF
  rw [last_snoc, List.length_append, List.length_singleton, Nat.mul_add, Nat.mul_one]
  have e1 : (List.range ps.length).countP (fun x => leF ps h x && noneF ps (row ++ [h]) x) = (List.range ps.length).countP (fun x => (leF ps (lastF row) x && noneF ps row x) || msF ps (some (lastF row)) (some h) x) := cnt_congr fun x hx => by
    have px := pos x (List.mem_range.mp hx)
    have e : noneF ps (row ++ [h]) x = (noneF ps row x && !innF ps h x) := by
      unfold noneF
      rw [List.all_append, List.all_cons, List.all_nil, Bool.and_true]
    rw [e]
    have s := none_split pw ne px
    unfold msF agF bhF
    rw [Bool.eq_iff_iff, Bool.and_eq_true, Bool.and_eq_true, Bool.or_eq_true, Bool.and_eq_true, Bool.and_eq_true, le_iff, le_iff, decide_eq_true_eq, decide_eq_true_eq, Bool.not_eq_true', inn_not]
    constructor
    · rintro ⟨z1, z2, z3⟩
      rw [s, Bool.or_eq_true, Bool.and_eq_true, le_iff, decide_eq_true_eq] at z2
      rcases z2 with z2 | z2
      · exact .inl z2
      · exact .inr ⟨z2, z1⟩
    · rintro (⟨z1, z2⟩ | ⟨z1, z2⟩)
      · exact ⟨by omega, z2, by omega⟩
      · refine ⟨z2, ?_, by omega⟩
        rw [s, Bool.or_eq_true, decide_eq_true_eq]
        exact .inr z1
  rw [e1, cnt_or fun x hx z => ?_]
  · omega
  · have px := pos x (List.mem_range.mp hx)
    rw [Bool.and_eq_true, le_iff] at z
    unfold msF agF bhF
    rw [Bool.and_eq_false_iff]
    exact .inl (decide_eq_false (by omega))
theorem bnd_pre {ps : List Pc} {sl : Nat} {row : List Int} (pos : ∀ p, p < ps.length → cmF ps p < outF ps p) (pw : row.Pairwise (· < ·)) (ne : row ≠ []) : bndF ps sl row = preF ps sl row + missF ps (some (lastF row)) none := by
  unfold bndF preF missF
  have e1 : (List.range ps.length).countP (noneF ps row) = (List.range ps.length).countP (fun x => (leF ps (lastF row) x && noneF ps row x) || msF ps (some (lastF row)) none x) := cnt_congr fun x hx => by
    have m : msF ps (some (lastF row)) none x = decide (lastF row < cmF ps x) := by
      unfold msF agF bhF
      rw [Bool.and_true]
    rw [m]
    exact none_split pw ne (pos x (List.mem_range.mp hx))
  rw [e1, cnt_or fun x hx z => ?_]
  · omega
  · have px := pos x (List.mem_range.mp hx)
    rw [Bool.and_eq_true, le_iff] at z
    unfold msF agF bhF
    rw [Bool.and_eq_false_iff]
    exact .inl (decide_eq_false (by omega))
def candF (ps : List Pc) (sl : Nat) (h : Int) (e : Ent) : Ent := ((sl : Int) + e.1 + (missF ps (some (lastF e.2)) (some h) : Nat), e.2 ++ [h])
def firstE (ps : List Pc) (sl : Nat) (h : Int) : Ent := ((sl : Int) + (missF ps none (some h) : Nat), [h])
def newE (ps : List Pc) (sl : Nat) (en : List Ent) (h : Int) : Ent := minE (firstE ps sl h) (en.map (candF ps sl h))
def closeE (ps : List Pc) (h : Int) (e : Ent) : Ent := (e.1 + (missF ps (some h) none : Nat), e.2)
def stepE (ps : List Pc) (sl : Nat) (st : Ent × List Ent) (h : Int) : Ent × List Ent :=
  (if ltE (closeE ps h (newE ps sl st.2 h)) st.1 = true then closeE ps h (newE ps sl st.2 h) else st.1, st.2 ++ [newE ps sl st.2 h])
def scF (ps : List Pc) (sl : Nat) (zs : List Int) : Ent × List Ent := zs.foldl (stepE ps sl) (((ps.length : Int), []), [])
theorem scF_one {ps : List Pc} {sl : Nat} {zs : List Int} {i : Nat} {z : Int} (g : zs[i]? = some z) : scF ps sl (zs.take (i + 1)) = stepE ps sl (scF ps sl (zs.take i)) z := by
  unfold scF
  rw [List.take_add_one, g, List.foldl_append]; rfl
structure EInv (ps : List Pc) (sl : Nat) (Z : List Int) (st : Ent × List Ent) : Prop where
  each : ∀ e ∈ st.2, e.2.Pairwise (· < ·) ∧ e.2 ≠ [] ∧ (∀ h ∈ e.2, h ∈ Z) ∧ e.1 = (preF ps sl e.2 : Nat)
  low : ∀ row : List Int, row.Pairwise (· < ·) → row ≠ [] → (∀ h ∈ row, h ∈ Z) → ∃ e ∈ st.2, lastF e.2 = lastF row ∧ e.1 ≤ (preF ps sl row : Nat)
  best : st.1.2.Pairwise (· < ·) ∧ (∀ h ∈ st.1.2, h ∈ Z) ∧ st.1.1 = (bndF ps sl st.1.2 : Nat)
  blow : ∀ row : List Int, row.Pairwise (· < ·) → (∀ h ∈ row, h ∈ Z) → st.1.1 ≤ (bndF ps sl row : Nat)
  len : st.2.length = Z.length
theorem einv_nil {ps : List Pc} {sl : Nat} : EInv ps sl [] (((ps.length : Int), []), []) := by
  have e : bndF ps sl [] = ps.length := by
    unfold bndF
    rw [List.length_nil, Nat.mul_zero, Nat.zero_add]
    have : (List.range ps.length).countP (noneF ps []) = (List.range ps.length).length := List.countP_eq_length.mpr fun x _ => rfl
    rw [this, List.length_range]
  have em : ∀ {row : List Int}, (∀ h ∈ row, h ∈ ([] : List Int)) → row = [] := fun {row} h => List.eq_nil_iff_forall_not_mem.mpr fun x hx => List.not_mem_nil (h x hx)
  refine ⟨fun e h => (List.not_mem_nil h).elim, fun row _ ne h => absurd (em h) ne, ⟨.nil, fun h hh => hh, by rw [e]⟩, fun row _ h => ?_, rfl⟩
  rw [em h, e]
  exact Int.le_refl _
theorem einv_step {ps : List Pc} {sl : Nat} {Z : List Int} {st : Ent × List Ent} {z : Int} (pos : ∀ p, p < ps.length → cmF ps p < outF ps p) (I : EInv ps sl Z st) (hz : ∀ h ∈ Z, h < z) : EInv ps sl (Z ++ [z]) (stepE ps sl st z) := by
  obtain ⟨b, en⟩ := st
  obtain ⟨m1, m2⟩ := minE_is (en.map (candF ps sl z)) (firstE ps sl z)
  have mz : z ∈ Z ++ [z] := List.mem_append_right _ List.mem_cons_self
  have cd : ∀ c ∈ firstE ps sl z :: en.map (candF ps sl z), c.2.Pairwise (· < ·) ∧ c.2 ≠ [] ∧ (∀ h ∈ c.2, h ∈ Z ++ [z]) ∧ c.1 = (preF ps sl c.2 : Nat) ∧ lastF c.2 = z := fun c hc => by
    rcases List.mem_cons.mp hc with rfl | hc
    · refine ⟨List.pairwise_singleton .., (fun y => by cases y), fun h hh => ?_, ?_, rfl⟩
      · rw [List.mem_singleton.mp hh]; exact mz
      · show (sl : Int) + (missF ps none (some z) : Nat) = (preF ps sl [z] : Nat)
        rw [pre_one pos]; omega
    · obtain ⟨e, he, rfl⟩ := List.mem_map.mp hc
      obtain ⟨e1, e2, e3, e4⟩ := I.each e he
      have lz := hz _ (e3 _ (last_mem e2))
      refine ⟨List.pairwise_append.mpr ⟨e1, List.pairwise_singleton .., fun a ha b hb => by rw [List.mem_singleton.mp hb]; exact hz a (e3 a ha)⟩, (fun y => by have := congrArg List.length y; simp [candF] at this), fun h hh => ?_, ?_, last_snoc _ _⟩
      · rcases List.mem_append.mp hh with y | y
        · exact List.mem_append_left _ (e3 h y)
        · exact List.mem_append_right _ y
      · show (sl : Int) + e.1 + (missF ps (some (lastF e.2)) (some z) : Nat) = (preF ps sl (e.2 ++ [z]) : Nat)
        rw [pre_snoc pos e1 e2 lz, e4]; omega
  obtain ⟨n1, n2, n3, n4, n5⟩ := cd _ m1
  have hnew : minE (firstE ps sl z) (en.map (candF ps sl z)) = newE ps sl en z := rfl
  rw [hnew] at m1 m2 n1 n2 n3 n4 n5
  have rowc : ∀ row : List Int, row.Pairwise (· < ·) → row ≠ [] → (∀ h ∈ row, h ∈ Z ++ [z]) → lastF row = z → (newE ps sl en z).1 ≤ (preF ps sl row : Nat) := fun row pw ne hr el => by
    obtain ⟨r, a, rfl⟩ : ∃ r a, row = r ++ [a] := snoc_of ne
    rw [last_snoc] at el
    subst el
    obtain ⟨p1, _, p3⟩ := List.pairwise_append.mp pw
    have hr2 : ∀ h ∈ r, h ∈ Z := fun h hh => by
      rcases List.mem_append.mp (hr h (List.mem_append_left _ hh)) with y | y
      · exact y
      · have := p3 h hh a List.mem_cons_self
        rw [List.mem_singleton.mp y] at this; omega
    by_cases e : r = []
    · subst e
      have := m2 _ List.mem_cons_self
      have e : (firstE ps sl a).1 = (preF ps sl ([] ++ [a]) : Nat) := by
        show (sl : Int) + (missF ps none (some a) : Nat) = (preF ps sl [a] : Nat)
        rw [pre_one pos]; omega
      omega
    · obtain ⟨en1, h1, h2, h3⟩ := I.low r p1 e hr2
      have := m2 _ (List.mem_cons_of_mem _ (List.mem_map.mpr ⟨en1, h1, rfl⟩))
      rw [pre_snoc pos p1 e (p3 _ (last_mem e) a List.mem_cons_self), ← h2]
      have e2 : (candF ps sl a en1).1 = (sl : Int) + en1.1 + (missF ps (some (lastF en1.2)) (some a) : Nat) := rfl
      omega
  have rowo : ∀ row : List Int, row.Pairwise (· < ·) → (∀ h ∈ row, h ∈ Z ++ [z]) → (row ≠ [] → lastF row ≠ z) → ∀ h ∈ row, h ∈ Z := fun row pw hr el h hh => by
    rcases List.mem_append.mp (hr h hh) with y | y
    · exact y
    · have ne : row ≠ [] := fun e => by rw [e] at hh; cases hh
      have e1 := last_max pw hh
      have e2 := hr _ (last_mem ne)
      rw [List.mem_singleton.mp y] at e1
      rcases List.mem_append.mp e2 with u | u
      · have := hz _ u; omega
      · exact absurd (List.mem_singleton.mp u) (el ne)
  have bc : (closeE ps z (newE ps sl en z)).1 = (bndF ps sl (newE ps sl en z).2 : Nat) := by
    show (newE ps sl en z).1 + (missF ps (some z) none : Nat) = _
    rw [bnd_pre pos n1 n2, n4, n5]; omega
  refine ⟨fun e he => ?_, fun row pw ne hr => ?_, ?_, fun row pw hr => ?_, ?_⟩
  · rcases List.mem_append.mp he with y | y
    · obtain ⟨e1, e2, e3, e4⟩ := I.each e y
      exact ⟨e1, e2, fun h hh => List.mem_append_left _ (e3 h hh), e4⟩
    · rw [List.mem_singleton.mp y]
      exact ⟨n1, n2, n3, n4⟩
  · by_cases el : lastF row = z
    · exact ⟨newE ps sl en z, List.mem_append_right _ List.mem_cons_self, by rw [n5, el], rowc row pw ne hr el⟩
    · obtain ⟨e, h1, h2, h3⟩ := I.low row pw ne (rowo row pw hr fun _ => el)
      exact ⟨e, List.mem_append_left _ h1, h2, h3⟩
  · show (if ltE _ _ = true then closeE ps z (newE ps sl en z) else b).2.Pairwise (· < ·) ∧ (∀ h ∈ (if ltE _ _ = true then closeE ps z (newE ps sl en z) else b).2, h ∈ Z ++ [z]) ∧ (if ltE _ _ = true then closeE ps z (newE ps sl en z) else b).1 = _
    by_cases c : ltE (closeE ps z (newE ps sl en z)) b = true
    · simp only [stepE, if_pos c]
      exact ⟨n1, n3, bc⟩
    · simp only [stepE, if_neg c]
      obtain ⟨b1, b2, b3⟩ := I.best
      exact ⟨b1, fun h hh => List.mem_append_left _ (b2 h hh), b3⟩
  · have lo : (stepE ps sl (b, en) z).1.1 ≤ b.1 ∧ (stepE ps sl (b, en) z).1.1 ≤ (closeE ps z (newE ps sl en z)).1 := by
      show (if ltE _ _ = true then closeE ps z (newE ps sl en z) else b).1 ≤ _ ∧ (if ltE _ _ = true then closeE ps z (newE ps sl en z) else b).1 ≤ _
      cases c : ltE (closeE ps z (newE ps sl en z)) b with
      | true =>
        rw [if_pos rfl]
        refine ⟨Int.not_lt.mp fun l => ?_, Int.le_refl _⟩
        rw [ltE_not l] at c; cases c
      | false =>
        rw [if_neg Bool.false_ne_true]
        refine ⟨Int.le_refl _, Int.not_lt.mp fun l => ?_⟩
        rw [ltE_lt l] at c; cases c
    by_cases el : row ≠ [] ∧ lastF row = z
    · have h1 := rowc row pw el.1 hr el.2
      rw [bnd_pre pos pw el.1, el.2]
      have e : (closeE ps z (newE ps sl en z)).1 = (newE ps sl en z).1 + (missF ps (some z) none : Nat) := rfl
      omega
    · have : b.1 ≤ _ := I.blow row pw (rowo row pw hr fun ne e => el ⟨ne, e⟩)
      omega
  · show (en ++ [_]).length = (Z ++ [z]).length
    rw [List.length_append, List.length_append, I.len]; rfl
theorem einv_fold {ps : List Pc} {sl : Nat} (pos : ∀ p, p < ps.length → cmF ps p < outF ps p) : ∀ {zs Z : List Int} {st : Ent × List Ent}, EInv ps sl Z st → (Z ++ zs).Pairwise (· < ·) → EInv ps sl (Z ++ zs) (zs.foldl (stepE ps sl) st)
  | [], Z, st, I, _ => by rw [List.append_nil]; exact I
  | z :: zs, Z, st, I, pw => by
    have J := einv_step pos I fun h hh => (List.pairwise_append.mp pw).2.2 h hh z List.mem_cons_self
    have := einv_fold pos (zs := zs) J (by rw [List.append_assoc]; exact pw)
    rw [List.append_assoc] at this
    exact this
theorem sc_inv {ps : List Pc} {zs : List Int} (sl : Nat) (pos : ∀ p, p < ps.length → cmF ps p < outF ps p) (pw : zs.Pairwise (· < ·)) : EInv ps sl zs (scF ps sl zs) := einv_fold pos (Z := []) einv_nil pw
/-- just as many are kept as those hours let -/
theorem sc_kept {ps : List Pc} {zs : List Int} (sl : Nat) (pos : ∀ p, p < ps.length → cmF ps p < outF ps p) (hz : HoursOk ps zs) : bndF ps sl (scF ps sl zs).1.2 = (keptF ps sl).length := by
  have I := sc_inv sl pos hz.1
  obtain ⟨Hs, h1, h2, h3⟩ := kept_dual sl pos
  have lo := I.blow Hs h1 fun h hh => (hz.2 h).mpr (h2 h hh)
  obtain ⟨k1, k2, k3⟩ := kept_fit sl pos
  have up := weakF k1 k2 k3 (scF ps sl zs).1.2
  have e := I.best.2.2
  omega

end
end Pot

namespace Pot
open PySem PySem.Spec PyProof.Rows L2
section
variable {P : Program} {w : World} {K : PySem.W.Frag} {mg : Str → Option Value} {base : Heap}
theorem step_mem {ps : List Pc} {sl : Nat} {K : List Nat} {p x : Nat} (h : x ∈ stepK ps sl K p) : x ∈ K ++ [p] := by
  unfold stepK at h
  split at h
  · exact List.mem_of_mem_erase h
  · exact h
theorem step_len {ps : List Pc} {sl : Nat} {K : List Nat} {p : Nat} : (stepK ps sl K p).length ≤ K.length + 1 := by
  unfold stepK
  split
  · have := List.length_erase_le (a := topF ps (insF ps (K ++ [p]) (cmF ps p))) (l := K ++ [p])
    rw [List.length_append] at this
    exact this
  · rw [List.length_append]
    exact Nat.le_refl _
theorem fold_mem {ps : List Pc} {sl : Nat} : ∀ {l K : List Nat} {x : Nat}, x ∈ l.foldl (stepK ps sl) K → x ∈ K ∨ x ∈ l
  | [], _, _, h => .inl h
  | p :: l, K, x, h => by
    rcases fold_mem (l := l) h with z | z
    · rcases List.mem_append.mp (step_mem z) with y | y
      · exact .inl y
      · exact .inr (by rw [List.mem_singleton.mp y]; exact List.mem_cons_self)
    · exact .inr (List.mem_cons_of_mem _ z)
theorem fold_lenK {ps : List Pc} {sl : Nat} : ∀ {l K : List Nat}, (l.foldl (stepK ps sl) K).length ≤ K.length + l.length
  | [], _ => Nat.le_refl _
  | p :: l, K => by
    have h1 := fold_lenK (ps := ps) (sl := sl) (l := l) (K := stepK ps sl K p)
    have h2 := step_len (ps := ps) (sl := sl) (K := K) (p := p)
    rw [List.foldl_cons, List.length_cons]
    omega
theorem erase_at {d : Nat} : ∀ {l : List Nat}, d ∈ l → ∃ j, l[j]? = some d ∧ (∀ m, m < j → l[m]? ≠ some d) ∧ l.erase d = l.eraseIdx j
  | [], h => (List.not_mem_nil h).elim
  | x :: l, h => by
    by_cases e : x = d
    · subst e
      exact ⟨0, rfl, fun m hm => absurd hm (Nat.not_lt_zero _), by rw [List.erase_cons_head]; rfl⟩
    · rcases List.mem_cons.mp h with z | z
      · exact absurd z.symm e
      · obtain ⟨j, h1, h2, h3⟩ := erase_at z
        refine ⟨j + 1, h1, fun m hm => ?_, ?_⟩
        · cases m with
          | zero => exact fun q => e (Option.some.inj q)
          | succ m => exact h2 m (by omega)
        · rw [List.erase_cons_tail (by simpa using e), h3]; rfl
theorem map_erIdx {α β : Type} (f : α → β) : ∀ (l : List α) (j : Nat), (l.eraseIdx j).map f = (l.map f).eraseIdx j
  | [], _ => rfl
  | x :: l, 0 => rfl
  | x :: l, j + 1 => by
    show f x :: (l.eraseIdx j).map f = _
    rw [map_erIdx f l j]; rfl
theorem natV_map (l : List Nat) : l.map natV = (l.map fun k => ((k : Nat) : Int)).map V.int := by rw [List.map_map]; rfl
theorem extN_wr {H H1 : Hp} {L : Addr} {o : HO} (x : LamX.ExtN H H1) (n : H L = none) : LamX.ExtN H (upd H1 L o) := fun b u e nt => by
  rw [upd_ne (fun z => by rw [z, n] at e; cases e)]; exact x b u e nt
theorem tabs_wr {T : List (Addr × Str)} {H1 : Hp} {L : Addr} {o : HO} {xs : List V} (t : LamX.Tabs T H1) (h : H1 L = some (.lst xs)) : LamX.Tabs T (upd H1 L o) := fun p hp => by
  obtain ⟨ps, h1, h2, h3⟩ := t p hp
  have ne : ∀ {b : Addr} {u : HO}, H1 b = some u → (∀ l, u ≠ .lst l) → b ≠ L := fun e n z => by rw [z, h] at e; exact n _ (Option.some.inj e).symm
  exact ⟨ps, by rw [upd_ne (ne h1 fun l z => by cases z)]; exact h1, h2, fun pos cv hc => (h3 pos cv hc).imp fun c z => ⟨z.1, by rw [upd_ne (ne z.2 fun l q => by unfold LamX.CodeO at q; cases q)]; exact z.2⟩⟩
theorem ins_snoc {ps : List Pc} {l : List Nat} {h : Int} {i x : Nat} (g : l[i]? = some x) : insF ps (l.take (i + 1)) h = insF ps (l.take i) h ++ (if innF ps h x = true then [x] else []) := by
  unfold insF
  rw [List.take_add_one, g, List.filter_append]
  show _ ++ List.filter _ [x] = _
  rw [List.filter_cons, List.filter_nil]
def spMiss (K : PySem.W.Frag) : Sp := fun vs H Q _ => ∃ (a : Addr) (xs : List V) (ps : List Pc) (u v : Option Int), vs = [.ref a, opV u, opV v] ∧ SqL K H a xs ∧ DpAll K H xs (ps.map pcD) ∧ ps.length ≤ 60 ∧ ∀ H', Same H H' → Q (.int (missF ps u v : Nat)) H'
abbrev s_kept_in : Stmt := topS 12
def n_kept_in : List Str := ["pieces", "slots", "kept", "number", "inside", "other"]
theorem sc_kept_in : FnScope n_kept_in ["pieces", "slots"] (defScope s_kept_in) := ⟨rfl, rfl, rfl, by decide +kernel, rfl, by decide +kernel, by decide +kernel⟩
def spKept (K : PySem.W.Frag) (Pt Pk : Addr) : Sp := fun vs H Q _ => ∃ (a : Addr) (xs : List V) (ps : List Pc) (sl : Nat), vs = [.ref a, .int (sl : Nat)] ∧ SqL K H a xs ∧ DpAll K H xs (ps.map pcD) ∧ ps.length ≤ 60 ∧ (∀ p, p < ps.length → cmF ps p < outF ps p) ∧ LamX.Tabs (TT Pt Pk) H ∧
  ∀ (H' : Hp) (L : Addr) (zs : List Int), LamX.ExtN H H' → LamX.Tabs (TT Pt Pk) H' → (∀ x u, H x = some u → (∀ ps, u ≠ .tbl ps) → x ≠ L) → H' L = some (.lst (zs.map V.int)) → zs.Pairwise (· < ·) → (∀ k : Nat, (k : Int) ∈ zs ↔ k ∈ keptF ps sl) → (∀ z ∈ zs, 0 ≤ z) → zs.length = (keptF ps sl).length → Q (.ref L) H'
theorem ok_kept {f cd0 Pt Pk : Addr} {fd : FuncData} {k : Nat} (F : Fun K "kept_in" "kept_in" s_kept_in f fd) (hcd : fd.code = .ref cd0) (T : Txt mg) (TB : LamX.TabB base mg cd0 Pk) (hne : Pt ≠ Pk) (c_by_coming : Cl P w K mg base (k + 2) "by_coming" (spBy K Pt Pk)) (c_is_in : Cl P w K mg base (k + 2) "is_in" (spIn K)) (c_out_at : Cl P w K mg base (k + 1) "out_at" (spOut K)) : FnOk P w K mg base CX0 (k + 4) f fd ["pieces", "slots"] (spKept K Pt Pk) := by
  refine okC F hcd sc_kept_in (fun vs H Q E h => ?_) (fun A outer s H vs Q E hr h => ?_)
  · obtain ⟨a, xs, ps, sl, rfl, _⟩ := h
    rfl
  · obtain ⟨a, xs, ps, sl, rfl, hS, dx, l60, pos, tbs, q⟩ := h
    have nd := sc_kept_in.nd
    have hmT : (Pk, qKp) ∈ TT Pt Pk := List.mem_cons_of_mem _ List.mem_cons_self
    have huT : ∀ p ∈ TT Pt Pk, p.1 = Pk → p.2 = qKp := fun p hp e => by
      rcases List.mem_cons.mp hp with z | z
      · rw [z] at e
        exact absurd e hne
      · rw [List.mem_singleton.mp z]
    have lx : xs.length = ps.length := dpAll_map_len dx
    /- 0 pieces, 1 slots, 2 kept, 3 number, 4 inside, 5 other -/
    refine ⟨_, (pss_cons (ps_set (i := 2) nd rfl (.inl rfl) (pe_lst pa_nil))
      (pss_cons (ps_for PassesOwn.never rfl (ki_list (K := K) (pe_cl c_by_coming hr (by omega) (by rfl) (pa_cons (pv 0) pa_nil))) (pg_name (i := 3) nd rfl (.inr rfl))
          (pss_cons (ps_expr (pe_bm PySem.F.plainAttrs_list PySem.F.slot_list_append PySem.F.type_list_append mt_append (pv 2) (pa_cons (pv 3) pa_nil)))
          (pss_cons (ps_setLc (i := 4) (own := [("other", 5)]) rfl nd rfl rfl (sw_true rfl rfl rfl (by decide +kernel)) (ki_list (K := K) (pv 2)) (blkOk_by (N := n_kept_in) (sc := defScope s_kept_in) (by decide +kernel)) (fun _ _ _ _ _ => (pg_name (i := 5) nd rfl (.inl rfl))) (fun _ _ _ _ _ => (pts_one (pt_val (pe_cl c_is_in hr (by omega) (by rfl) (pa_cons (pe_ix (kx_list (K := K)) (pv 0) (pv 5) (fun _ _ => rfl)) (pa_cons (pe_ix (kx_tup (K := K)) (pe_ix (kx_list (K := K)) (pv 0) (pv 3) (fun _ _ => rfl)) pe_int (fun _ _ => rfl)) pa_nil)))))) (fun _ _ _ _ _ => (pv 5)))
          (pss_one (ps_if (pt_cmpR op_gt (pe_callB (kc_len (K := K)) (by rfl) T.len PySem.boot_len (pa_cons (pv 4) pa_nil)) (pv 1) (nomark _))
              (pss_one (ps_expr (pe_bm PySem.F.plainAttrs_list PySem.F.slot_list_remove PySem.F.type_list_remove mt_remove (pv 2) (pa_cons (RLam.pe_maxLam (io := 0) (n := "other") (o := "pieces") rfl (by rfl) T.max (pa_cons (pv 4) pa_nil) TB rfl hmT huT hr (RLam.lamP_by (sc := defScope s_kept_in) (by decide +kernel)) (by decide) rfl rfl (fun _ _ _ _ _ _ => rfl) (fun _ _ _ _ _ _ hr => (pe_cl c_out_at hr (by omega) (by rfl) (pa_cons (pe_ix (kx_list (K := K)) (pv 1) (pv 0) (fun _ _ => rfl)) pa_nil)))) pa_nil))))
              pss_nil)))))
      (pss_one (ps_ret (pe_callB (kc_sorted (K := K)) (by rfl) T.sorted (by decide +kernel) (pa_cons (pv 2) pa_nil)))))), ?_⟩
    refine ⟨Nat.zero_le _, fun L nL => ?_⟩
    have s0 := same_upd (o := .lst []) nL
    have hL : upd H L (.lst []) L = some (.lst []) := upd_same
    have hS0 := s0.seq hS
    have dx0 := dpAll_same s0 dx
    have tbs0 := tbs.ext s0
    generalize upd H L (.lst []) = H0 at s0 hL hS0 dx0 tbs0 ⊢
    refine ⟨_, rfl, a, xs, ps, rfl, hS0, dx0, l60, tbs0, fun H1 O x1 tbs1 fr hO => ⟨O, rfl, ⟨_, SqL.of hO⟩, ?_⟩⟩
    have hL1 : H1 L = some (.lst ((([] : List Nat)).map natV)) := x1 _ _ hL (fun ps z => by cases z)
    have OL : O ≠ L := fun e => fr L _ hL (fun ps z => by cases z) e.symm
    have xH : LamX.ExtN H H1 := (LamX.ExtN.of s0).trans x1
    refine for_it (walk_list (xs := (ordF ps).map natV)) (fun i σ Hz => ∃ (v3 v4 v5 : Option V), σ = [some (.ref a), some (.int (sl : Nat)), some (.ref L), v3, v4, v5] ∧ LamX.ExtN H Hz ∧ LamX.Tabs (TT Pt Pk) Hz ∧ Hz O = some (.lst ((ordF ps).map natV)) ∧ Hz L = some (.lst ((((ordF ps).take i).foldl (stepK ps sl) []).map natV)))
      ⟨_, _, _, rfl, xH, tbs1, hO, hL1⟩ (fun i σ Hz _ h => by obtain ⟨_, _, _, _, _, _, h, _⟩ := h; exact SqL.of h) ?_ ?_
    · rintro i y σ Hz Hw hi ⟨v3, v4, v5, rfl, xz, tbz, hOz, hLz⟩ ⟨rfl, gy⟩
      rw [List.getElem?_map] at gy
      obtain ⟨p, gp, rfl⟩ := Option.map_eq_some_iff.mp gy
      have hp := ordF_mem.mp (List.mem_of_getElem? gp)
      have eone : ((ordF ps).take (i + 1)).foldl (stepK ps sl) [] = stepK ps sl (((ordF ps).take i).foldl (stepK ps sl) []) p := by
        rw [List.take_add_one, gp, List.foldl_append]; rfl
      have hSz := RLam.sqL_ext hS xz
      have dxz := pcs_ext xz dx
      have Kmem : ∀ x ∈ ((ordF ps).take i).foldl (stepK ps sl) [] ++ [p], x < ps.length := fun x hx => by
        rcases List.mem_append.mp hx with z | z
        · rcases fold_mem z with y | y
          · exact (List.not_mem_nil y).elim
          · exact ordF_mem.mp (List.mem_of_mem_take y)
        · rw [List.mem_singleton.mp z]; exact hp
      have Klen : (((ordF ps).take i).foldl (stepK ps sl) []).length ≤ i := by
        have := fold_lenK (ps := ps) (sl := sl) (l := (ordF ps).take i) (K := [])
        rw [List.length_take] at this
        have e : ([] : List Nat).length = 0 := rfl
        omega
      rw [List.length_map, ordF_len] at hi
      rw [eone]
      clear eone
      generalize ((ordF ps).take i).foldl (stepK ps sl) [] = K0 at hLz Kmem Klen
      unfold stepK
      have lf : (K0.map natV).length < sizeLine := by rw [List.length_map, sizeLine_eq]; omega
      refine ⟨_, rfl, .inl ⟨rfl, _, SqL.of hLz⟩, _, rfl, L, _, _, rfl, rfl, hLz, lf, ?_⟩
      have xz := extN_wr (o := .lst (K0.map natV ++ [natV p])) xz nL
      have tbz := tabs_wr (o := .lst (K0.map natV ++ [natV p])) tbz hLz
      have hSz := RLam.sqL_ext hS xz
      have dxz := pcs_ext xz dx
      have hOz : upd Hw L (.lst (K0.map natV ++ [natV p])) O = some (.lst ((ordF ps).map natV)) := by rw [upd_ne OL]; exact hOz
      have hLz : upd Hw L (.lst (K0.map natV ++ [natV p])) L = some (.lst ((K0 ++ [p]).map natV)) := by rw [upd_same, List.map_append]; rfl
      have K1len : (K0 ++ [p]).length ≤ 60 := by rw [List.length_append]; show _ + 1 ≤ 60; omega
      generalize upd Hw L (.lst (K0.map natV ++ [natV p])) = Hy at xz tbz hSz dxz hOz hLz ⊢
      generalize K0 ++ [p] = K1 at hLz K1len Kmem ⊢
      refine ⟨_, rfl, L, rfl, ⟨_, SqL.of hLz⟩, fun C nC => ?_⟩
      have LC : L ≠ C := ne_of_none hLz nC
      refine lc_it (walk_list (xs := K1.map natV)) (PvL Hy C fun j => (insF ps (K1.take j) (cmF ps p)).map natV) (pv_start nC rfl) (fun j H4 _ h => SqL.of (h.1 _ _ hLz)) ?_ ?_
      · rintro j y Ha Hb hj pz ⟨rfl, gx⟩
        rw [List.getElem?_map] at gx
        obtain ⟨x, gx2, rfl⟩ := Option.map_eq_some_iff.mp gx
        have hx := Kmem x (List.mem_of_getElem? gx2)
        obtain ⟨b2, eb2, hb2, _⟩ := pcs_at (dpAll_same pz.1 dxz) (List.getElem?_eq_getElem (show x < xs.length by omega))
        obtain ⟨b3, eb3, hb3, _⟩ := pcs_at (dpAll_same pz.1 dxz) (List.getElem?_eq_getElem (show p < xs.length by omega))
        refine ⟨rfl, _, rfl, _, rfl, a, _, _, _, rfl, rfl, pz.1.seq hSz, atI_nat (List.getElem?_eq_getElem (show x < xs.length by omega)), ?_⟩
        rw [eb2]
        refine ⟨_, rfl, _, rfl, a, _, _, _, rfl, rfl, pz.1.seq hSz, atI_nat (List.getElem?_eq_getElem (show p < xs.length by omega)), ?_⟩
        rw [eb3]
        refine ⟨b3, _, 0, _, rfl, rfl, hb3, rfl, ?_⟩
        refine ⟨b2, ps.getD x pc0, cmF ps p, rfl, hb2, _, rfl, ?_⟩
        have jl := (List.getElem?_eq_some_iff.mp gx2).1
        have lf : ((insF ps (K1.take j) (cmF ps p)).map natV).length < sizeLine := by
          rw [List.length_map, sizeLine_eq]
          have h1 := List.length_filter_le (innF ps (cmF ps p)) (K1.take j)
          rw [List.length_take] at h1
          unfold insF
          omega
        cases e : inB (ps.getD x pc0) (cmF ps p) with
        | true =>
          refine iteT ⟨_, rfl, ?_⟩
          refine pv_put nC pz (Same.refl _) ?_ lf
          rw [ins_snoc gx2, if_pos (show innF ps (cmF ps p) x = true from e), List.map_append]; rfl
        | false =>
          refine iteF (pv_skip pz (Same.refl _) ?_)
          rw [ins_snoc gx2, if_neg (by unfold innF; rw [e]; exact Bool.false_ne_true), List.append_nil]
      · intro H2 pz
        obtain ⟨s2, hC⟩ := pv_end pz (show _ = (insF ps K1 (cmF ps p)).map natV by rw [List.length_map, List.take_length])
        clear pz
        have Ilen : (insF ps K1 (cmF ps p)).length ≤ 60 := by
          have h1 := List.length_filter_le (innF ps (cmF ps p)) K1
          unfold insF
          omega
        have Imem : ∀ x ∈ insF ps K1 (cmF ps p), x ∈ K1 := fun x hx => (List.mem_filter.mp hx).1
        have xz := xz.trans (.of s2)
        have tbz := tbz.ext s2
        have hOz := s2 _ _ hOz
        have hLz := s2 _ _ hLz
        generalize hI : insF ps K1 (cmF ps p) = I0 at hC Ilen Imem ⊢
        refine ⟨_, rfl, _, _, rfl, .inl ⟨_, SqL.of hC, rfl⟩, _, rfl, _, _, rfl, rfl, _, rfl, ite2 (fun c1 => ?_) (fun c1 => ?_)⟩
        · have c2 := of_decide_eq_true c1
          rw [List.length_map] at c2
          have c3 : sl < I0.length := by omega
          rw [if_pos c3]
          refine ⟨_, rfl, .inl ⟨rfl, _, SqL.of hLz⟩, _, rfl, C, I0.map natV, (fun i => outF ps (I0.getD i 0)), .ref a, rfl, hC, (by rw [List.length_map]; omega), tbz, rfl, fun H3 x3 od i x gx => ?_, fun H3 x3 tb3 hC3 i x gx hmax => ?_⟩
          · rw [List.getElem?_map] at gx
            obtain ⟨y, gy2, rfl⟩ := Option.map_eq_some_iff.mp gx
            have hy := Kmem y (Imem y (List.mem_of_getElem? gy2))
            have xF : LamX.ExtN Hy (upd H3 C (.frz od (.lst (I0.map natV)))) := fun b o e n => by
              rw [upd_ne (ne_of_none e nC)]; exact x3 b o (s2 b o e) n
            obtain ⟨b2, eb2, hb2, _⟩ := pcs_at (pcs_ext xF dxz) (List.getElem?_eq_getElem (show y < xs.length by omega))
            refine ⟨_, rfl, _, rfl, a, _, _, _, rfl, rfl, RLam.sqL_ext hSz xF, atI_nat (List.getElem?_eq_getElem (show y < xs.length by omega)), ?_⟩
            rw [eb2]
            refine ⟨b2, ps.getD y pc0, rfl, hb2, ?_, rfl⟩
            have e0 : I0.getD i 0 = y := by rw [List.getD_eq_getElem?_getD, gy2]; rfl
            show V.int (outF ps y) = V.int (outF ps (I0.getD i 0))
            rw [e0]
          · rw [List.getElem?_map] at gx
            obtain ⟨d, gd, rfl⟩ := Option.map_eq_some_iff.mp gx
            have ed : topF ps I0 = d := top_at gd fun j y hj => by
              have jl := (List.getElem?_eq_some_iff.mp hj).1
              have hm : outF ps (I0.getD j 0) ≤ outF ps (I0.getD i 0) ∧ (j < i → outF ps (I0.getD j 0) < outF ps (I0.getD i 0)) := hmax j (by rw [List.length_map]; exact jl)
              have e1 : I0.getD j 0 = y := by rw [List.getD_eq_getElem?_getD, hj]; rfl
              have e2 : I0.getD i 0 = d := by rw [List.getD_eq_getElem?_getD, gd]; rfl
              rw [e1, e2] at hm
              exact hm
            rw [ed]
            obtain ⟨j, j1, j2, j3⟩ := erase_at (Imem d (List.mem_of_getElem? gd))
            have hL3 := x3 _ _ hLz (fun ps z => by cases z)
            have hL3 : H3 L = some (.lst ((K1.map fun k => ((k : Nat) : Int)).map V.int)) := by rw [← natV_map]; exact hL3
            refine ⟨L, K1.map fun k => ((k : Nat) : Int), ((d : Nat) : Int), j, rfl, rfl, hL3, by rw [List.getElem?_map, j1]; rfl, fun m hm z => ?_, ?_⟩
            · rw [List.getElem?_map] at z
              obtain ⟨y, y1, y2⟩ := Option.map_eq_some_iff.mp z
              have y2 : y = d := by omega
              exact j2 m hm (by rw [y1, y2])
            · refine ⟨_, _, _, rfl, extN_wr (xz.trans x3) nL, tabs_wr tb3 hL3, by rw [upd_ne OL]; exact x3 _ _ hOz (fun ps z => by cases z), ?_⟩
              rw [upd_same, j3, natV_map, map_erIdx, map_erIdx, map_erIdx]
        · have c2 := of_decide_eq_false (Bool.not_eq_true _ |>.mp c1)
          rw [List.length_map] at c2
          rw [if_neg (by omega)]
          exact ⟨_, _, _, rfl, xz, tbz, hOz, hLz⟩
    · rintro σ Hz ⟨v3, v4, v5, rfl, xz, tbz, hOz, hLz⟩
      rw [List.length_map, List.take_of_length_le (Nat.le_refl _)] at hLz
      have hLz : Hz L = some (.lst ((keptF ps sl).map natV)) := hLz
      have Klen : (keptF ps sl).length ≤ 60 := by
        have := fold_lenK (ps := ps) (sl := sl) (l := ordF ps) (K := [])
        rw [ordF_len] at this
        exact Nat.le_trans this (by show 0 + _ ≤ 60; omega)
      refine ⟨_, rfl, L, (keptF ps sl).map fun k => ((k : Nat) : Int), rfl, SqL.of (by rw [← natV_map]; exact hLz), (by rw [List.length_map]; omega), fun ns' p pm pw np => ?_⟩
      obtain ⟨k1, k2, k3⟩ := kept_fit sl pos
      refine q _ p ns' (xz.trans (.of (same_upd np))) (tbz.ext (same_upd np)) (fun x u e n z => ?_) upd_same ?_ (fun k => ?_) (fun z hz => ?_) ?_
      · have := xz x u e n
        rw [z, np] at this
        cases this
      · have nd : ns'.Nodup := pm.nodup_iff.mpr (List.pairwise_map.mpr (k1.imp fun ne z => ne (by omega)))
        exact (pw.and nd).imp fun {a b} z => by have := z.1; have := z.2; omega
      · rw [pm.mem_iff, List.mem_map]
        exact ⟨fun ⟨y, h1, h2⟩ => by have : y = k := by omega
                                     exact this ▸ h1, fun h => ⟨k, h, rfl⟩⟩
      · obtain ⟨y, _, rfl⟩ := List.mem_map.mp (pm.mem_iff.mp hz)
        omega
      · rw [pm.length_eq, List.length_map]

end
end Pot

namespace Pot
open PySem PySem.Spec PyProof.Rows L2
section
variable {P : Program} {w : World} {K : PySem.W.Frag} {mg : Str → Option Value} {base : Heap}
abbrev s_missed : Stmt := topS 14
def n_missed : List Str := ["pieces", "ahead", "behind", "piece"]
theorem sc_missed : FnScope n_missed ["pieces", "ahead", "behind"] (defScope s_missed) := ⟨rfl, rfl, rfl, by decide +kernel, rfl, by decide +kernel, by decide +kernel⟩
theorem ok_miss {f : Addr} {fd : FuncData} {k : Nat} (F : Fun K "missed" "missed" s_missed f fd) (T : Txt mg) (c_out_at : Cl P w K mg base (k + 1) "out_at" (spOut K)) : FnOk P w K mg base CX0 (k + 2) f fd ["pieces", "ahead", "behind"] (spMiss K) := by
  refine F.ok sc_missed (fun vs H Q E h => ?_) (fun cdv A outer s H vs Q E hr h => ?_)
  · obtain ⟨a, xs, ps, u, v, rfl, _⟩ := h
    rfl
  · obtain ⟨a, xs, ps, u, v, rfl, hS, dx, l60, q⟩ := h
    have nd := sc_missed.nd
    have lx : xs.length = ps.length := dpAll_map_len dx
    /- 0 pieces, 1 ahead, 2 behind, 3 piece -/
    refine ⟨_, (pss_one (ps_ret (pe_callB (kc_len (K := K)) (by rfl) T.len PySem.boot_len (pa_cons (pe_lc (own := [("piece", 3)]) rfl nd (ki_list (K := K) (pv 0)) (blkOk_by (N := n_missed) (sc := defScope s_missed) (by decide +kernel)) (fun _ _ _ _ _ => (pg_name (i := 3) nd rfl (.inl rfl))) (fun _ _ _ _ _ => (pts_one ((pw_and ((pw_or (pt_cmpR op_isN (pv 1) pe_non (nomark _)) (pw_or1 (pt_cmpR op_gt (pe_ix (kx_tup (K := K)) (pv 3) pe_int (fun _ _ => rfl)) (pv 1) (nomark _))))).pt (pw_and1 ((pw_or (pt_cmpR op_isN (pv 2) pe_non (nomark _)) (pw_or1 (pt_cmpR op_le (pe_cl c_out_at hr (by omega) (by rfl) (pa_cons (pv 3) pa_nil)) (pv 2) (nomark _))))).pt))).pt)) (fun _ _ _ _ _ => (pv 3))) pa_nil)))), ?_⟩
    refine ⟨_, rfl, a, rfl, ⟨_, hS⟩, fun C nC => ?_⟩
    refine lc_it (walk_list (xs := xs)) (PvL H C fun j => ((List.range j).filter (msF ps u v)).map fun x => xs.getD x .non) (pv_start nC rfl) (fun j H4 _ h => h.1.seq hS) ?_ ?_
    · rintro j y Ha Hb hj pz ⟨rfl, gx⟩
      obtain ⟨b, rfl, hb, hj2, _⟩ := pcs_at (dpAll_same pz.1 dx) gx
      have lf : (((List.range j).filter (msF ps u v)).map fun x => xs.getD x .non).length < sizeLine := by
        rw [List.length_map, sizeLine_eq]
        have := List.length_filter_le (msF ps u v) (List.range j)
        rw [List.length_range] at this
        omega
      have fin : ∀ c : Bool, msF ps u v j = c → if c = true then ∃ acc, Hb C = some (HO.lst acc) ∧ acc.length < sizeLine ∧ PvL H C (fun j => ((List.range j).filter (msF ps u v)).map fun x => xs.getD x .non) (j + 1) (upd Hb C (HO.lst (acc ++ [V.ref b]))) else PvL H C (fun j => ((List.range j).filter (msF ps u v)).map fun x => xs.getD x .non) (j + 1) Hb := fun c hc => by
        have er : ((List.range (j + 1)).filter (msF ps u v)) = (List.range j).filter (msF ps u v) ++ (if msF ps u v j = true then [j] else []) := by
          rw [List.range_succ, List.filter_append]
          show _ ++ List.filter _ [j] = _
          rw [List.filter_cons, List.filter_nil]
        cases c with
        | true =>
          rw [if_pos rfl]
          refine pv_put nC pz (Same.refl _) ?_ lf
          show List.map _ _ = _
          rw [er, if_pos hc, List.map_append]
          show _ ++ [xs.getD j .non] = _
          rw [List.getD_eq_getElem?_getD, gx]; rfl
        | false =>
          rw [if_neg Bool.false_ne_true]
          refine pv_skip pz (Same.refl _) ?_
          show List.map _ _ = _
          rw [er, if_neg (by rw [hc]; exact Bool.false_ne_true), List.append_nil]
      have two : ∀ R : Bool → Hp → Prop, R (bhF ps v j) Hb → tOr (tTest (tOp (fun x y H Q => y = V.non ∧ Q (V.bl (decide (x = V.non))) H) (tVar 2) (tC V.non)))
          (tTest (tOp (rI0 fun i j => V.bl (decide (i ≤ j))) (tCall (spOut K) [] E0 (tCons (tVar 3) tNil)) (tVar 2))) [some (.ref a), some (opV u), some (opV v), some (.ref b)] Hb R := fun R hR => by
        cases v with
        | none =>
          refine ⟨_, rfl, rfl, _, rfl, ?_⟩
          rw [show decide (opV none = V.non) = true from rfl]
          exact iteT hR
        | some z =>
          refine ⟨_, rfl, rfl, _, rfl, ?_⟩
          rw [show decide (opV (some z) = V.non) = false from decide_eq_false (by intro e; cases e)]
          exact iteF ⟨_, rfl, b, ps.getD j pc0, rfl, hb, _, rfl, _, _, rfl, rfl, _, rfl, hR⟩
      refine ⟨rfl, ?_⟩
      show tAnd _ _ [some (.ref a), some (opV u), some (opV v), some (.ref b)] Hb _
      cases u with
      | none =>
        refine ⟨_, rfl, rfl, _, rfl, ?_⟩
        rw [show decide (opV none = V.non) = true from rfl]
        refine iteT (iteT (two _ ?_))
        have := fin _ rfl
        rw [show msF ps none v j = bhF ps v j from rfl] at this
        cases e : bhF ps v j with
        | true => rw [e] at this; exact iteT ⟨_, rfl, this⟩
        | false => rw [e] at this; exact iteF this
      | some z =>
        refine ⟨_, rfl, rfl, _, rfl, ?_⟩
        rw [show decide (opV (some z) = V.non) = false from decide_eq_false (by intro e; cases e)]
        refine iteF ⟨_, rfl, b, _, 0, _, rfl, rfl, hb, rfl, _, rfl, _, _, rfl, rfl, _, rfl, ?_⟩
        have := fin _ rfl
        cases e1 : decide (z < cmF ps j) with
        | false =>
          rw [show msF ps (some z) v j = (decide (z < cmF ps j) && bhF ps v j) from rfl, e1] at this
          rw [show decide (z < (ps.getD j pc0).1) = false from e1]
          exact iteF (iteF this)
        | true =>
          rw [show msF ps (some z) v j = (decide (z < cmF ps j) && bhF ps v j) from rfl, e1, Bool.true_and] at this
          rw [show decide (z < (ps.getD j pc0).1) = true from e1]
          refine iteT (two _ ?_)
          cases e : bhF ps v j with
          | true => rw [e] at this; exact iteT ⟨_, rfl, this⟩
          | false => rw [e] at this; exact iteF this
    · intro H2 pz
      obtain ⟨s2, hC⟩ := pv_end pz rfl
      refine ⟨_, _, rfl, .inl ⟨_, SqL.of hC, rfl⟩, ?_⟩
      have e : ((((List.range xs.length).filter (msF ps u v)).map fun x => xs.getD x V.non).length : Int) = (missF ps u v : Nat) := by
        rw [List.length_map, lx]
        unfold missF
        rw [List.countP_eq_length_filter]
      rw [e]
      exact q _ s2
/-- an entry as it stands: a tuple, its row a list that was not there at H0 -/
def EntV (H0 H : Hp) (v : V) (e : Ent) : Prop := ∃ t r, v = .ref t ∧ H t = some (.tup [.int e.1, .ref r]) ∧ H r = some (.lst (e.2.map V.int)) ∧ H0 r = none
theorem EntV.same {H0 H H' : Hp} {v : V} {e : Ent} (h : EntV H0 H v e) (s : Same H H') : EntV H0 H' v e := by
  obtain ⟨t, r, rfl, h1, h2, h3⟩ := h
  exact ⟨t, r, rfl, s _ _ h1, s _ _ h2, h3⟩
theorem EntV.dp {H0 H : Hp} {v : V} {e : Ent} (h : EntV H0 H v e) : Dp K H v (prD e) := by
  obtain ⟨t, r, rfl, h1, h2, h3⟩ := h
  exact .tup (.inl (.inl h1)) (.cons (.int _) (.cons (.lst (.inl (.inl h2)) (dp_ints _)) .nil))
inductive EntL (H0 H : Hp) : List V → List Ent → Prop
  | nil : EntL H0 H [] []
  | cons {v e es en} : EntV H0 H v e → EntL H0 H es en → EntL H0 H (v :: es) (e :: en)
theorem EntL.same {H0 H H' : Hp} (s : Same H H') : ∀ {es : List V} {en : List Ent}, EntL H0 H es en → EntL H0 H' es en
  | _, _, .nil => .nil
  | _, _, .cons a r => .cons (a.same s) (EntL.same s r)
theorem EntL.app {H0 H : Hp} : ∀ {es fs : List V} {en fn : List Ent}, EntL H0 H es en → EntL H0 H fs fn → EntL H0 H (es ++ fs) (en ++ fn)
  | _, _, _, _, .nil, b => b
  | _, _, _, _, .cons a r, b => .cons a (EntL.app r b)
theorem EntL.len {H0 H : Hp} : ∀ {es : List V} {en : List Ent}, EntL H0 H es en → es.length = en.length
  | _, _, .nil => rfl
  | _, _, .cons _ r => congrArg (· + 1) (EntL.len r)
theorem EntL.get {H0 H : Hp} : ∀ {es : List V} {en : List Ent} {i : Nat} {v : V}, EntL H0 H es en → es[i]? = some v → ∃ e, en[i]? = some e ∧ EntV H0 H v e
  | _, _, 0, _, .cons a _, g => ⟨_, rfl, Option.some.inj g ▸ a⟩
  | _, _, i + 1, _, .cons _ r, g => EntL.get (i := i) r g
theorem EntL.dp {H0 H : Hp} : ∀ {es : List V} {en : List Ent}, EntL H0 H es en → DpAll K H es (en.map prD)
  | _, _, .nil => .nil
  | _, _, .cons a r => .cons a.dp (EntL.dp r)
theorem dep_prD : ∀ l : List Ent, PyData.depthAll (l.map prD) ≤ 60
  | [] => Nat.zero_le _
  | e :: l => by
    show max (PyData.depth (prD e)) (PyData.depthAll (l.map prD)) ≤ 60
    refine Nat.max_le.mpr ⟨?_, dep_prD l⟩
    show max 0 (max (PyData.depthAll (e.2.map PyData.int) + 1) 0) + 1 ≤ 60
    rw [dep_ints]
    decide
theorem prD_inj {a b : Ent} (h : prD a = prD b) : a = b := by
  obtain ⟨a1, a2⟩ := a
  obtain ⟨b1, b2⟩ := b
  obtain ⟨h1, h2⟩ := List.cons.inj (PyData.tuple.inj h)
  obtain ⟨h3, _⟩ := List.cons.inj h2
  have e1 : a1 = b1 := PyData.int.inj h1
  have e2 : a2 = b2 := (List.map_inj_right fun x y z => PyData.int.inj z).mp (PyData.list.inj h3)
  rw [e1, e2]
abbrev s_scarce_hours : Stmt := topS 13
def n_scarce_hours : List Str := ["pieces", "slots", "best", "ended", "hour", "cost", "hours", "own", "row"]
theorem sc_scarce_hours : FnScope n_scarce_hours ["pieces", "slots"] (defScope s_scarce_hours) := ⟨rfl, rfl, rfl, by decide +kernel, rfl, by decide +kernel, by decide +kernel⟩
def spSc (K : PySem.W.Frag) : Sp := fun vs H Q _ => ∃ (a : Addr) (xs : List V) (ps : List Pc) (sl : Nat), vs = [.ref a, .int (sl : Nat)] ∧ SqL K H a xs ∧ DpAll K H xs (ps.map pcD) ∧ ps.length ≤ 60 ∧ (∀ p, p < ps.length → cmF ps p < outF ps p) ∧
  ∀ (H' : Hp) (L : Addr) (zs : List Int), Same H H' → H L = none → H' L = some (.lst (((scF ps sl zs).1.2).map V.int)) → HoursOk ps zs → Q (.ref L) H'
theorem ok_sc {f : Addr} {fd : FuncData} {k : Nat} (F : Fun K "scarce_hours" "scarce_hours" s_scarce_hours f fd) (T : Txt mg) (c_hours_of_coming : Cl P w K mg base (k + 1) "hours_of_coming" (spHrs K)) (c_missed : Cl P w K mg base (k + 2) "missed" (spMiss K)) : FnOk P w K mg base CX0 (k + 3) f fd ["pieces", "slots"] (spSc K) := by
  refine F.ok sc_scarce_hours (fun vs H Q E h => ?_) (fun cdv A outer s H vs Q E hr h => ?_)
  · obtain ⟨a, xs, ps, sl, rfl, _⟩ := h
    rfl
  · obtain ⟨a, xs, ps, sl, rfl, hS, dx, l60, pos, q⟩ := h
    have nd := sc_scarce_hours.nd
    have hu64 := hr.units
    have lx : xs.length = ps.length := dpAll_map_len dx
    /- 0 pieces, 1 slots, 2 best, 3 ended, 4 hour, 5 cost, 6 hours, 7 own, 8 row -/
    refine ⟨_, (pss_cons (ps_set (i := 2) nd rfl (.inl rfl) (pe_tup (pa_cons (pe_callB (kc_len (K := K)) (by rfl) T.len PySem.boot_len (pa_cons (pv 0) pa_nil)) (pa_cons (pe_lst pa_nil) pa_nil))))
      (pss_cons (ps_set (i := 3) nd rfl (.inl rfl) (pe_lst pa_nil))
      (pss_cons (ps_for PassesOwn.never rfl (ki_list (K := K) (pe_cl c_hours_of_coming hr (by omega) (by rfl) (pa_cons (pv 0) pa_nil))) (pg_name (i := 4) nd rfl (.inr rfl))
          (pss_cons (ps_asg (pe_callB (kc_minD (K := K) hu64) (by rfl) T.min (by decide +kernel) (pa_cons (pe_op op_cat (pe_lst (pa_cons (pe_tup (pa_cons (pe_op op_add (pv 1) (pe_cl c_missed hr (by omega) (by rfl) (pa_cons (pv 0) (pa_cons pe_non (pa_cons (pv 4) pa_nil))))) (pa_cons (pe_lst (pa_cons (pv 4) pa_nil)) pa_nil))) pa_nil)) (pe_lc (own := [("own", 7), ("row", 8)]) rfl nd (ki_list (K := K) (pv 3)) (blkOk_by (N := n_scarce_hours) (sc := defScope s_scarce_hours) (by decide +kernel)) (fun _ _ _ _ _ => (kg_tup (K := K) (n := 2) (pgs_cons (pg_name (i := 7) nd rfl (.inl rfl)) (pgs_cons (pg_name (i := 8) nd rfl (.inl rfl)) pgs_nil)))) (fun _ _ _ _ _ => pts_nil) (fun _ _ _ _ _ => (pe_tup (pa_cons (pe_op op_add (pe_op op_add (pv 1) (pv 7)) (pe_cl c_missed hr (by omega) (by rfl) (pa_cons (pv 0) (pa_cons (pe_ix (kx_list (K := K)) (pv 8) (pe_un un_neg pe_int) (fun _ _ => rfl)) (pa_cons (pv 4) pa_nil))))) (pa_cons (pe_op op_cat (pv 8) (pe_lst (pa_cons (pv 4) pa_nil))) pa_nil)))))) pa_nil)) (kg_tup (K := K) (n := 2) (pgs_cons (pg_name (i := 5) nd rfl (.inl rfl)) (pgs_cons (pg_name (i := 6) nd rfl (.inl rfl)) pgs_nil))))
          (pss_cons (ps_expr (pe_bm PySem.F.plainAttrs_list PySem.F.slot_list_append PySem.F.type_list_append mt_append (pv 3) (pa_cons (pe_tup (pa_cons (pv 5) (pa_cons (pv 6) pa_nil))) pa_nil)))
          (pss_one (ps_set (i := 2) nd rfl (.inl rfl) (pe_callB (kc_min2D (K := K) hu64) (by rfl) T.min (by decide +kernel) (pa_cons (pv 2) (pa_cons (pe_tup (pa_cons (pe_op op_add (pv 5) (pe_cl c_missed hr (by omega) (by rfl) (pa_cons (pv 0) (pa_cons (pv 4) (pa_cons pe_non pa_nil))))) (pa_cons (pv 6) pa_nil))) pa_nil))))))))
      (pss_one (ps_ret (pe_ix (kx_tup (K := K)) (pv 2) pe_int (fun _ _ => rfl))))))), ?_⟩
    refine ⟨_, rfl, _, _, rfl, .inl ⟨_, hS, rfl⟩, Nat.zero_le _, fun L0 nL0 => ⟨(by show 2 ≤ sizeLine; decide), fun B nB => ?_⟩⟩
    have s1 := (same_upd (o := .lst []) nL0).trans (same_upd (o := .tup [.int (xs.length : Int), .ref L0]) nB)
    have hL0 : upd (upd H L0 (.lst [])) B (.tup [.int (xs.length : Int), .ref L0]) L0 = some (.lst []) := by rw [upd_ne (ne_of_none upd_same nB)]; exact upd_same
    have hB : upd (upd H L0 (.lst [])) B (.tup [.int (xs.length : Int), .ref L0]) B = some (.tup [.int (xs.length : Int), .ref L0]) := upd_same
    generalize upd (upd H L0 (.lst [])) B (.tup [.int (xs.length : Int), .ref L0]) = H1 at s1 hL0 hB ⊢
    refine ⟨Nat.zero_le _, fun En nE => ?_⟩
    have s2 := s1.trans (same_upd (o := .lst []) nE)
    have LE : L0 ≠ En := ne_of_none hL0 nE
    have BE : B ≠ En := ne_of_none hB nE
    have hL0 := (same_upd (o := .lst []) nE) _ _ hL0
    have hB := (same_upd (o := .lst []) nE) _ _ hB
    have hE : upd H1 En (.lst []) En = some (.lst []) := upd_same
    have nEH : H En = none := by
      cases e : H En with
      | none => rfl
      | some o => have := s1 _ _ e; rw [nE] at this; cases this
    generalize upd H1 En (.lst []) = H2 at s2 hL0 hB hE ⊢
    have hS2 := s2.seq hS
    have dx2 := dpAll_same s2 dx
    refine ⟨_, rfl, a, xs, ps, rfl, hS2, dx2, l60, fun H3 Zl zs s3 nZ hZ hok => ⟨Zl, rfl, ⟨_, SqL.of hZ⟩, ?_⟩⟩
    have sH3 := s2.trans s3
    have hE3 := s3 _ _ hE
    have hL03 := s3 _ _ hL0
    have hB3 := s3 _ _ hB
    have ZE : Zl ≠ En := fun z => by rw [z, hE] at nZ; cases nZ
    have l60z : zs.length ≤ 60 := by
      have := nodup_le (l := ps.map (·.1)) (hok.1.imp fun h => by omega) fun k hk => (hok.2 k).mp hk
      rw [List.length_map] at this
      omega
    clear hE hL0 hB hS2 dx2 s2 s1 nE nB
    have dB : EntV H (off H3 [En]) (.ref B) ((ps.length : Int), []) := ⟨B, L0, rfl, by rw [off_out (by simp [BE]), hB3, lx], by rw [off_out (by simp [LE])]; exact hL03, nL0⟩
    refine for_it (walk_list (xs := zs.map V.int)) (fun i σ Hz => ∃ (bt : V) (es : List V) (v4 v5 v6 v7 v8 : Option V), σ = [some (.ref a), some (.int (sl : Nat)), some bt, some (.ref En), v4, v5, v6, v7, v8] ∧ Same H Hz ∧ Hz Zl = some (.lst (zs.map V.int)) ∧ Hz En = some (.lst es) ∧
        EntL H (off Hz [En]) es (scF ps sl (zs.take i)).2 ∧ EntV H (off Hz [En]) bt (scF ps sl (zs.take i)).1) ⟨_, _, _, _, _, _, _, rfl, sH3, hZ, hE3, .nil, dB⟩ (fun i σ Hz _ h => by obtain ⟨_, _, _, _, _, _, _, _, _, h, _⟩ := h; exact SqL.of h) ?_ ?_
    · rintro i y σ Hz Hw hi ⟨bt, es, v4, v5, v6, v7, v8, rfl, sz, hZz, hEz, dez, dbz⟩ ⟨rfl, gy⟩
      rw [List.getElem?_map] at gy
      obtain ⟨z, gz, rfl⟩ := Option.map_eq_some_iff.mp gy
      rw [List.length_map] at hi
      have I := sc_inv sl pos (zs := zs.take i) (hok.1.sublist (List.take_sublist _ _))
      rw [scF_one gz]
      have elen : es.length ≤ 60 := by
        have := I.len
        rw [List.length_take] at this
        have := dez.len
        omega
      have erow : ∀ e ∈ (scF ps sl (zs.take i)).2, e.2 ≠ [] ∧ e.2.length ≤ 60 := fun e he => by
        obtain ⟨e1, e2, e3, _⟩ := I.each e he
        refine ⟨e2, ?_⟩
        have := nodup_le (l := zs.take i) (e1.imp fun h => by omega) e3
        rw [List.length_take] at this
        omega
      have brow : (scF ps sl (zs.take i)).1.2.length ≤ 60 := by
        obtain ⟨b1, b2, _⟩ := I.best
        have := nodup_le (l := zs.take i) (b1.imp fun h => by omega) b2
        rw [List.length_take] at this
        omega
      clear I
      generalize scF ps sl (zs.take i) = st at dez dbz erow brow ⊢
      obtain ⟨b0, en⟩ := st
      have hSz := sz.seq hS
      have dxz := dpAll_same sz dx
      refine ⟨_, rfl, _, rfl, _, rfl, a, xs, ps, none, some z, rfl, hSz, dxz, l60, fun Ha sa => ⟨_, _, rfl, rfl, _, rfl, (by show 1 ≤ sizeLine; decide), fun L1 nL1 => ⟨(by show 2 ≤ sizeLine; decide), fun T1 nT1 => ⟨(by show 1 ≤ sizeLine; decide), fun A1 nA1 => ?_⟩⟩⟩⟩
      obtain ⟨c1, ec1⟩ : ∃ c1 : Int, c1 = (sl : Int) + ((missF ps none (some z) : Nat) : Int) := ⟨_, rfl⟩
      have e0 : (fun i j : Int => V.int (i + j)) ((sl : Nat) : Int) ((missF ps none (some z) : Nat) : Int) = V.int c1 := by rw [ec1]
      rw [e0] at nA1 ⊢
      have hLa : upd Ha L1 (.lst [.int z]) L1 = some (.lst [.int z]) := upd_same
      have sb := ((sa.trans (same_upd (o := .lst [.int z]) nL1)).trans (same_upd (o := .tup [.int c1, .ref L1]) nT1)).trans (same_upd (o := .lst [.ref T1]) nA1)
      have hL1 := (same_upd (o := .lst [.ref T1]) nA1) _ _ ((same_upd (o := .tup [.int c1, .ref L1]) nT1) _ _ hLa)
      have hT1 := (same_upd (o := .lst [.ref T1]) nA1) _ _ (show upd (upd Ha L1 (.lst [.int z])) T1 (.tup [.int c1, .ref L1]) T1 = _ from upd_same)
      have hA1 : upd (upd (upd Ha L1 (.lst [.int z])) T1 (.tup [.int c1, .ref L1])) A1 (.lst [.ref T1]) A1 = some (.lst [.ref T1]) := upd_same
      have hEa := sa _ _ hEz
      have E1 : L1 ≠ En := fun q => by rw [q, hEa] at nL1; cases nL1
      have E2 : T1 ≠ En := (ne_of_none ((same_upd (o := .lst [.int z]) nL1) _ _ hEa) nT1).symm
      clear hLa hEa
      generalize upd (upd (upd Ha L1 (.lst [.int z])) T1 (.tup [.int c1, .ref L1])) A1 (.lst [.ref T1]) = Hb at sb hL1 hT1 hA1 ⊢
      have hEb := sb _ _ hEz
      have hSb := sb.seq hSz
      have dxb := dpAll_same sb dxz
      refine ⟨_, rfl, En, rfl, ⟨_, SqL.of hEb⟩, fun C nC => ?_⟩
      have CE : C ≠ En := fun q => by rw [q, hEb] at nC; cases nC
      have lee : es.length = en.length := dez.len
      refine lc_it (walk_list (xs := es)) (fun j Hx => Same Hb Hx ∧ ∃ cs, Hx C = some (.lst cs) ∧ cs.length ≤ j ∧ EntL H (off Hx [C, En]) cs ((en.take j).map (candF ps sl z))) ⟨same_upd nC, [], upd_same, Nat.le_refl _, .nil⟩ (fun j Hx _ h => SqL.of (h.1 _ _ hEb)) ?_ ?_
      · rintro j y Hx Hy hj ⟨sx, cs, hC, cl, dc⟩ ⟨rfl, gx⟩
        obtain ⟨e, ge, t, r, rfl, ht, hr, _⟩ := dez.get gx
        have em := List.mem_of_getElem? ge
        obtain ⟨ne, rl⟩ := erow e em
        have ht := (off_sub.trans (sb.trans sx)) _ _ ht
        have hr := (off_sub.trans (sb.trans sx)) _ _ hr
        have hat : atI (e.2.map V.int) (-1) = some (.int (lastF e.2)) := by
          obtain ⟨q, l, eq⟩ := snoc_of ne
          rw [eq, last_snoc, List.map_append]
          exact atI_last _ _
        refine ⟨t, _, rfl, .inl (.inl ht), rfl, _, _, rfl, _, _, rfl, rfl, rfl, tYes_at ?_⟩
        rw [if_pos rfl]
        refine ⟨_, rfl, _, rfl, _, _, rfl, rfl, _, rfl, ?_⟩
        refine ⟨_, rfl, 1, rfl, r, _, (-1), _, rfl, rfl, SqL.of hr, hat, _, rfl, ?_⟩
        refine ⟨a, xs, ps, some (lastF e.2), some z, rfl, sx.seq hSb, dpAll_same sx dxb, l60, fun Hm sm => ⟨_, _, rfl, rfl, _, rfl, _, rfl, (by show 1 ≤ sizeLine; decide), fun Lh nLh => ?_⟩⟩
        have s5 := sm.trans (same_upd (o := .lst [.int z]) nLh)
        refine ⟨r, Lh, _, _, rfl, rfl, s5 _ _ hr, upd_same, (by rw [List.length_map, sizeLine_eq]; show _ + 1 ≤ _; omega), fun M nM => ⟨(by show 2 ≤ sizeLine; decide), fun Tp nTp => ?_⟩⟩
        have hC5 := s5 _ _ hC
        have hE5 := s5 _ _ (sx _ _ hEb)
        have CM : M ≠ C := fun q => by rw [q, hC5] at nM; cases nM
        have EM : M ≠ En := fun q => by rw [q, hE5] at nM; cases nM
        have nHM : H M = none := by
          cases q : H M with
          | none => rfl
          | some o => have := s5 _ _ (sx _ _ (sb _ _ (sz _ _ q))); rw [nM] at this; cases this
        have s6 := s5.trans (same_upd (o := .lst (e.2.map V.int ++ [V.int z])) nM)
        have CT : Tp ≠ C := fun q => by rw [q, s6 _ _ hC] at nTp; cases nTp
        have ET : Tp ≠ En := fun q => by rw [q, s6 _ _ (sx _ _ hEb)] at nTp; cases nTp
        have MT : M ≠ Tp := ne_of_none upd_same nTp
        have s7 := s6.trans (same_upd (o := .tup [.int ((sl : Int) + e.1 + ((missF ps (some (lastF e.2)) (some z) : Nat) : Int)), .ref M]) nTp)
        refine ⟨cs, s7 _ _ hC, by rw [sizeLine_eq]; omega, same_put (sx.trans s7) nC, cs ++ [.ref Tp], upd_same, by rw [List.length_append]; show _ + 1 ≤ _; omega, ?_⟩
        rw [List.take_add_one, ge, List.map_append]
        refine EntL.app (dc.same ((sm_of s7).trans (sm_wr List.mem_cons_self))) (.cons ⟨Tp, M, rfl, ?_, ?_, nHM⟩ .nil)
        · rw [off_out (by simp [CT, ET]), upd_ne CT]
          exact upd_same
        · rw [off_out (by simp [CM, EM]), upd_ne CM, upd_ne MT, upd_same]
          show _ = some (HO.lst ((e.2 ++ [z]).map V.int))
          rw [List.map_append]; rfl
      · rintro Hx ⟨sx, cs, hC, cl, dc⟩
        rw [List.take_of_length_le (by omega)] at dc
        refine ⟨A1, C, _, _, rfl, rfl, sx _ _ hA1, hC, (by rw [sizeLine_eq]; show 1 + _ ≤ _; omega), fun M nM => ?_⟩
        have s6 := sx.trans (same_upd (o := .lst ([.ref T1] ++ cs)) nM)
        have hM : upd Hx M (.lst ([.ref T1] ++ cs)) M = some (.lst (.ref T1 :: cs)) := upd_same
        have nHL : H L1 = none := by
          cases q : H L1 with
          | none => rfl
          | some o => have := sa _ _ (sz _ _ q); rw [nL1] at this; cases this
        have cds : EntL H (off (upd Hx M (.lst ([.ref T1] ++ cs))) [En]) (.ref T1 :: cs) (firstE ps sl z :: en.map (candF ps sl z)) := by
          refine .cons ⟨T1, L1, rfl, ?_, ?_, nHL⟩ (dc.same ((off_mono (by simp)).trans (sm_of (same_upd nM))))
          · rw [off_out (by simp [E2]), s6 _ _ hT1, ec1]; rfl
          · rw [off_out (by simp [E1]), s6 _ _ hL1]; rfl
        have hE6 := s6 _ _ hEb
        have hZ6 := s6 _ _ (sb _ _ hZz)
        have s6H := sz.trans (sb.trans s6)
        have dez := dez.same (sm_of (S := [En]) (sb.trans s6))
        have dbz := dbz.same (sm_of (S := [En]) (sb.trans s6))
        clear dc hC nM nC CE hA1 hT1 hL1 nA1 nL1 E1 E2 sx
        generalize upd Hx M (.lst ([.ref T1] ++ cs)) = H6 at s6 hM cds hE6 hZ6 s6H dez dbz ⊢
        have cdp := (cds.dp (K := K))
        refine ⟨M, .ref T1 :: cs, prD (firstE ps sl z), (en.map (candF ps sl z)).map prD, rfl, SqL.of hM, dpAll_same off_sub cdp, alikeAll_prD (firstE ps sl z :: en.map (candF ps sl z)), dep_prD (firstE ps sl z :: en.map (candF ps sl z)), fun v j gv gd => ?_⟩
        obtain ⟨e', ge', he'⟩ := cds.get gv
        have ee : e' = newE ps sl en z := by
          have h1 : ((firstE ps sl z :: en.map (candF ps sl z)).map prD)[j]? = some (prD e') := by rw [List.getElem?_map, ge']; rfl
          have h2 : ((firstE ps sl z :: en.map (candF ps sl z)).map prD)[j]? = some (PySem.W.minD (prD (firstE ps sl z)) ((en.map (candF ps sl z)).map prD)) := gd
          rw [minD_minE, h1] at h2
          exact prD_inj (Option.some.inj h2)
        subst ee
        obtain ⟨t, r, rfl, ht, hr, nHr⟩ := he'
        have h2 : ∀ {en : List Ent} {e : Ent}, EntL H (off H6 [En]) es en → True := fun _ => trivial
        refine ⟨t, _, rfl, .inl (.inl (at_off ht)), rfl, _, _, rfl, _, _, rfl, rfl, ?_⟩
        have ntu : ∀ {x : Addr} {o : HO}, off H6 [En] x = some o → x ≠ En := fun e q => off_mem e (by rw [q]; exact List.mem_cons_self)
        generalize hn : newE ps sl en z = ne at ht hr
        refine ⟨_, rfl, .inl ⟨rfl, _, SqL.of hE6⟩, _, rfl, _, rfl, (by show 2 ≤ sizeLine; decide), fun T2 nT2 => ?_⟩
        have s7 := same_upd (o := .tup [.int ne.1, .ref r]) nT2
        have ET : T2 ≠ En := fun q => by rw [q, hE6] at nT2; cases nT2
        have nw : EntV H (off (upd H6 T2 (.tup [.int ne.1, .ref r])) [En]) (.ref T2) ne := ⟨T2, r, rfl, by rw [off_out (by simp [ET])]; exact upd_same, (sm_of s7) _ _ hr, nHr⟩
        refine ⟨En, es, _, rfl, rfl, s7 _ _ hE6, by rw [sizeLine_eq]; omega, ?_⟩
        have dez := EntL.app (dez.same (sm_of s7)) (.cons nw .nil)
        have dbz := dbz.same (sm_of (S := [En]) s7)
        have hr := (sm_of (S := [En]) s7) _ _ hr
        have hE7 : upd (upd H6 T2 (.tup [.int ne.1, .ref r])) En (.lst (es ++ [.ref T2])) En = some (.lst (es ++ [.ref T2])) := upd_same
        have sw : Sm [En] (upd H6 T2 (.tup [.int ne.1, .ref r])) (upd (upd H6 T2 (.tup [.int ne.1, .ref r])) En (.lst (es ++ [.ref T2]))) := sm_wr List.mem_cons_self
        have dez := dez.same sw
        have dbz := dbz.same sw
        have hr := sw _ _ hr
        have s8H : Same H (upd (upd H6 T2 (.tup [.int ne.1, .ref r])) En (.lst (es ++ [.ref T2]))) := same_put (s6H.trans s7) nEH
        have hZ7 : upd (upd H6 T2 (.tup [.int ne.1, .ref r])) En (.lst (es ++ [.ref T2])) Zl = some (.lst (zs.map V.int)) := by rw [upd_ne ZE]; exact s7 _ _ hZ6
        clear cds cdp hM s6 s7 sw nw nT2 hE6 s6H hZ6 ht
        generalize upd (upd H6 T2 (.tup [.int ne.1, .ref r])) En (.lst (es ++ [.ref T2])) = H7 at dez dbz hr hE7 s8H hZ7 ⊢
        refine ⟨_, rfl, _, rfl, _, rfl, _, rfl, a, xs, ps, some z, none, rfl, s8H.seq hS, dpAll_same s8H dx, l60, fun H8 s8 => ⟨_, _, rfl, rfl, _, rfl, (by show 2 ≤ sizeLine; decide), fun T3 nT3 => ?_⟩⟩
        have hE8 := s8 _ _ hE7
        have E3 : T3 ≠ En := fun q => by rw [q, hE8] at nT3; cases nT3
        have s9 := s8.trans (same_upd (o := .tup [.int (ne.1 + ((missF ps (some z) none : Nat) : Int)), .ref r]) nT3)
        have cl : EntV H (off (upd H8 T3 (.tup [.int (ne.1 + ((missF ps (some z) none : Nat) : Int)), .ref r])) [En]) (.ref T3) (closeE ps z ne) := ⟨T3, r, rfl, by rw [off_out (by simp [E3])]; exact upd_same, (sm_of s9) _ _ hr, nHr⟩
        have dbz := dbz.same (sm_of (S := [En]) s9)
        have dez := dez.same (sm_of (S := [En]) s9)
        refine ⟨bt, .ref T3, prD b0, prD (closeE ps z ne), rfl, dp_same off_sub dbz.dp, dp_same off_sub cl.dp, alikeAll_prD [b0, closeE ps z ne], dep_prD [b0, closeE ps z ne], ?_⟩
        refine ⟨_, _, _, _, _, _, _, rfl, s8H.trans s9, s9 _ _ hZ7, s9 _ _ hE7, ?_, ?_⟩
        · show EntL H _ _ (en ++ [newE ps sl en z])
          rw [hn]; exact dez
        · show EntV H _ _ (if ltE (closeE ps z (newE ps sl en z)) b0 = true then closeE ps z (newE ps sl en z) else b0)
          rw [hn]
          unfold ltE
          split
          · exact cl
          · exact dbz
    · rintro σ Hz ⟨bt, es, v4, v5, v6, v7, v8, rfl, sz, hZz, hEz, dez, dbz⟩
      rw [List.length_map, List.take_of_length_le (Nat.le_refl _)] at dbz
      obtain ⟨t, r, rfl, ht, hr, nHr⟩ := dbz
      exact ⟨_, rfl, t, _, 1, _, rfl, rfl, .inl (.inl (at_off ht)), rfl, q Hz r zs sz nHr (at_off hr) hok⟩
abbrev s_most_cooled : Stmt := topS 11
def n_most_cooled : List Str := ["pieces", "slots"]
theorem sc_most_cooled : FnScope n_most_cooled ["pieces", "slots"] (defScope s_most_cooled) := ⟨rfl, rfl, rfl, by decide +kernel, rfl, by decide +kernel, by decide +kernel⟩
def spMC (K : PySem.W.Frag) (Pt Pk : Addr) : Sp := fun vs H Q _ => ∃ (a : Addr) (xs : List V) (ps : List Pc) (sl : Nat), vs = [.ref a, .int (sl : Nat)] ∧ SqL K H a xs ∧ DpAll K H xs (ps.map pcD) ∧ ps.length ≤ 60 ∧ (∀ p, p < ps.length → cmF ps p < outF ps p) ∧ LamX.Tabs (TT Pt Pk) H ∧
  ∀ (H' : Hp) (t L M : Addr) (ks zs : List Int), LamX.ExtN H H' → LamX.Tabs (TT Pt Pk) H' → H' t = some (.tup [.ref L, .ref M]) → H' L = some (.lst (ks.map V.int)) → H' M = some (.lst (((scF ps sl zs).1.2).map V.int)) → L ≠ M → (∀ x u, H x = some u → (∀ ps, u ≠ .tbl ps) → x ≠ L ∧ x ≠ M) →
    ks.Pairwise (· < ·) → (∀ k : Nat, (k : Int) ∈ ks ↔ k ∈ keptF ps sl) → (∀ z ∈ ks, 0 ≤ z) → ks.length = (keptF ps sl).length → HoursOk ps zs → Q (.ref t) H'
theorem ok_mc {f Pt Pk : Addr} {fd : FuncData} {k : Nat} (F : Fun K "most_cooled" "most_cooled" s_most_cooled f fd) (c_kept_in : Cl P w K mg base (k + 4) "kept_in" (spKept K Pt Pk)) (c_scarce_hours : Cl P w K mg base (k + 3) "scarce_hours" (spSc K)) : FnOk P w K mg base CX0 (k + 5) f fd ["pieces", "slots"] (spMC K Pt Pk) := by
  refine F.ok sc_most_cooled (fun vs H Q E h => ?_) (fun cdv A outer s H vs Q E hr h => ?_)
  · obtain ⟨a, xs, ps, sl, rfl, _⟩ := h
    rfl
  · obtain ⟨a, xs, ps, sl, rfl, hS, dx, l60, pos, tbs, q⟩ := h
    have nd := sc_most_cooled.nd
    refine ⟨_, (pss_one (ps_ret (pe_tup (pa_cons (pe_cl c_kept_in hr (by omega) (by rfl) (pa_cons (pv 0) (pa_cons (pv 1) pa_nil))) (pa_cons (pe_cl c_scarce_hours hr (by omega) (by rfl) (pa_cons (pv 0) (pa_cons (pv 1) pa_nil))) pa_nil))))), ?_⟩
    refine ⟨_, rfl, _, rfl, a, xs, ps, sl, rfl, hS, dx, l60, pos, tbs, fun H1 L ks x1 tb1 fr hL k1 k2 k3 k4 => ?_⟩
    refine ⟨_, rfl, _, rfl, a, xs, ps, sl, rfl, RLam.sqL_ext hS x1, pcs_ext x1 dx, l60, pos, fun H2 M zs s2 nM hM hz => ⟨(by show 2 ≤ sizeLine; decide), fun t nt => ?_⟩⟩
    have s3 := s2.trans (same_upd (o := .tup [.ref L, .ref M]) nt)
    refine q _ t L M ks zs (x1.trans (.of s3)) (tb1.ext s3) upd_same (s3 _ _ hL) ((same_upd nt) _ _ hM) (fun e => by rw [e, nM] at hL; cases hL) (fun x u e n => ⟨fr x u e n, fun z => ?_⟩) k1 k2 k3 k4 hz
    have := x1 x u e n
    rw [z, nM] at this
    cases this

end
end Pot

namespace Pot
open PySem PySem.Spec PyProof.Rows L2
section
variable {P : Program} {w : World} {K : PySem.W.Frag} {mg : Str → Option Value} {base : Heap}
def whD : PyData → Bool
  | .int _ => true
  | _ => false
abbrev s__law_whole : Stmt := topS 21
def n__law_whole : List Str := ["_law_thing"]
theorem sc__law_whole : FnScope n__law_whole ["_law_thing"] (defScope s__law_whole) := ⟨rfl, rfl, rfl, by decide +kernel, rfl, by decide +kernel, by decide +kernel⟩
def spWh (K : PySem.W.Frag) : Sp := fun vs H Q _ => ∃ (x : V) (d : PyData), vs = [x] ∧ Dp K H x d ∧ ∀ H', Same H H' → Q (.bl (whD d)) H'
theorem ok_lwhole {f : Addr} {fd : FuncData} {k : Nat} (F : Fun K "_law_whole" "_law_whole" s__law_whole f fd) (T : Txt mg) : FnOk P w K mg base CX0 (k + 1) f fd ["_law_thing"] (spWh K) := by
  refine F.ok sc__law_whole (fun vs H Q E h => ?_) (fun cdv A outer s H vs Q E hr h => ?_)
  · obtain ⟨x, d, rfl, _⟩ := h
    rfl
  · obtain ⟨x, d, rfl, dp, q⟩ := h
    have nd := sc__law_whole.nd
    refine ⟨_, (pss_one (ps_ret (pe_and (pe_callB (kc_isi (K := K)) (by rfl) T.isinstance (by decide +kernel) (pa_cons (pv 0) (pa_cons (pe_bltn (v := .ty "int") (by rfl) T.int (by decide +kernel) rfl) pa_nil))) (pe_one (pe_not (pe_callB (kc_isi (K := K)) (by rfl) T.isinstance (by decide +kernel) (pa_cons (pv 0) (pa_cons (pe_bltn (v := .ty "bool") (by rfl) T.bool (by decide +kernel) rfl) pa_nil)))))))), ?_⟩
    refine ⟨_, rfl, _, .ty _, _, _, isIntD _, rfl, .ty _, tyx_dp dp, kit_int dp, _, rfl, ?_⟩
    have dp0 := dp
    cases dp with
    | int i => exact iteT ⟨_, rfl, _, .ty _, _, _, isBoolD _, rfl, .ty _, tyx_dp dp0, kit_bool dp0, _, rfl, q _ (Same.refl _)⟩
    | bl b => exact iteT ⟨_, rfl, _, .ty _, _, _, isBoolD _, rfl, .ty _, tyx_dp dp0, kit_bool dp0, _, rfl, q _ (Same.refl _)⟩
    | non => exact iteF (q _ (Same.refl _))
    | str _ => exact iteF (q _ (Same.refl _))
    | lst _ _ => exact iteF (q _ (Same.refl _))
    | tup _ _ => exact iteF (q _ (Same.refl _))

/-- whether these fit, as the law counts -/
def fitB (ps : List Pc) (sl : Nat) (S : List Nat) : Bool := S.all fun p => decide (S.countP (innF ps (cmF ps p)) ≤ sl)
def natsD : PyData → List Nat
  | .list ds => ds.map fun d => (toI d).toNat
  | _ => []
def fitsD (ps : List Pc) (sl : Nat) (d : PyData) : Bool := risD 0 ((ps.length : Int) - 1) d && fitB ps sl (natsD d)
theorem fitB_iff {ps : List Pc} {sl : Nat} {S : List Nat} : fitB ps sl S = true ↔ FitF ps sl S := by
  unfold fitB FitF
  rw [List.all_eq_true]
  exact forall_congr' fun p => forall_congr' fun _ => decide_eq_true_iff
theorem here_sub {ps : List Pc} {S : List Nat} {h : Int} : ∀ j, j ≤ S.length → (hereN (S.map fun k => ps.getD k pc0) h j).length = (S.take j).countP (innF ps h)
  | 0, _ => rfl
  | j + 1, hj => by
    have ih := here_sub (ps := ps) (S := S) (h := h) j (by omega)
    have gj : S[j]? = some (S[j]'(by omega)) := List.getElem?_eq_getElem (by omega)
    have e : (S.map fun k => ps.getD k pc0).getD j pc0 = ps.getD (S[j]'(by omega)) pc0 := by rw [List.getD_eq_getElem?_getD, List.getElem?_map, gj]; rfl
    rw [List.take_add_one, gj]
    show _ = (S.take j ++ [S[j]'(by omega)]).countP _
    rw [cnt_snoc, ← ih]
    cases c : innF ps h (S[j]'(by omega)) with
    | true =>
      rw [hereN_yes (by rw [e]; exact c), List.length_append, if_pos rfl]; rfl
    | false =>
      rw [hereN_no (by rw [e]; exact c), if_neg Bool.false_ne_true, Nat.add_zero]
theorem dp_sub {H : Hp} {xs : List V} {ps : List Pc} (dx : DpAll K H xs (ps.map pcD)) : ∀ {S : List Nat}, (∀ k ∈ S, k < ps.length) → DpAll K H (S.map fun k => xs.getD k .non) ((S.map fun k => ps.getD k pc0).map pcD)
  | [], _ => .nil
  | k :: S, h => by
    have hk := h k List.mem_cons_self
    have lx : xs.length = ps.length := dpAll_map_len dx
    have g := List.getElem?_eq_getElem (show k < xs.length by omega)
    obtain ⟨_, _, _, _, d⟩ := pcs_at dx g
    refine .cons ?_ (dp_sub dx fun x hx => h x (List.mem_cons_of_mem _ hx))
    show Dp K H (xs.getD k .non) (pcD (ps.getD k pc0))
    rw [show xs.getD k .non = xs[k]'(by omega) from by rw [List.getD_eq_getElem?_getD, g]; rfl]
    exact d
theorem nats_ok {n : Nat} {ds : List PyData} (h : risD 0 ((n : Int) - 1) (.list ds) = true) : ∃ S : List Nat, ds = (S.map fun k => ((k : Nat) : Int)).map PyData.int ∧ natsD (.list ds) = S ∧ S.Pairwise (· < ·) ∧ ∀ k ∈ S, k < n := by
  have h : (ds.all (numD 0 ((n : Int) - 1)) && risI (ds.map toI)) = true := h
  rw [Bool.and_eq_true] at h
  obtain ⟨en, bn⟩ := nums_of h.1
  have e2 : (ds.map fun d => (toI d).toNat).map (fun k : Nat => (k : Int)) = ds.map toI := by
    rw [List.map_map]
    refine List.map_congr_left fun d hd => ?_
    have := bn _ (List.mem_map.mpr ⟨d, hd, rfl⟩)
    show (((toI d).toNat : Nat) : Int) = toI d
    omega
  refine ⟨ds.map fun d => (toI d).toNat, by rw [e2]; exact en, rfl, ?_, fun k hk => ?_⟩
  · have pw := risI_pair.mp h.2
    rw [← e2] at pw
    exact (List.pairwise_map.mp pw).imp fun z => by omega
  · obtain ⟨d, hd, rfl⟩ := List.mem_map.mp hk
    have := bn _ (List.mem_map.mpr ⟨d, hd, rfl⟩)
    omega
theorem nats_len {S : List Nat} {n : Nat} (h : S.Pairwise (· < ·)) (b : ∀ k ∈ S, k < n) : S.length ≤ n := by
  have := nodup_leG (l := S) (ts := List.range n) (h.imp fun z => Nat.ne_of_lt z) fun x hx => List.mem_range.mpr (b x hx)
  rw [List.length_range] at this
  exact this

abbrev s__law_rising : Stmt := topS 22
def n__law_rising : List Str := ["_law_thing", "_law_most", "_law_one", "_law_other"]
theorem sc__law_rising : FnScope n__law_rising ["_law_thing", "_law_most"] (defScope s__law_rising) := ⟨rfl, rfl, rfl, by decide +kernel, rfl, by decide +kernel, by decide +kernel⟩
def spLRis (K : PySem.W.Frag) : Sp := fun vs H Q _ => ∃ (x : V) (d : PyData) (m : Int), vs = [x, .int m] ∧ Dp K H x d ∧ widAll.wid d ≤ 4000 ∧ ∀ H', Same H H' → Q (.bl (risD 0 (m - 1) d)) H'
theorem ok_lris {f : Addr} {fd : FuncData} {k : Nat} (F : Fun K "_law_rising" "_law_rising" s__law_rising f fd) (T : Txt mg) (c__law_whole : Cl P w K mg base (k + 1) "_law_whole" (spWh K)) : FnOk P w K mg base CX0 (k + 2) f fd ["_law_thing", "_law_most"] (spLRis K) := by
  refine F.ok sc__law_rising (fun vs H Q E h => ?_) (fun cdv A outer s H vs Q E hr h => ?_)
  · obtain ⟨x, d, m, rfl, _⟩ := h
    rfl
  · obtain ⟨x, d, m, rfl, dp, hw, q⟩ := h
    have nd := sc__law_rising.nd
    refine ⟨_, (pss_cons (ps_if ((pw_or (pt_not (pt_val (pe_callB (kc_isi (K := K)) (by rfl) T.isinstance (by decide +kernel) (pa_cons (pv 0) (pa_cons (pe_bltn (v := .ty "list") (by rfl) T.list (by decide +kernel) rfl) pa_nil))))) (pw_or1 (pt_not (pt_val (pe_callB (kc_all (K := K)) (by rfl) T.all (by decide +kernel) (pa_cons (pe_lc (own := [("_law_one", 2)]) rfl nd (ki_list (K := K) (pv 0)) (blkOk_by (N := n__law_rising) (sc := defScope s__law_rising) (by decide +kernel)) (fun _ _ _ _ _ => (pg_name (i := 2) nd rfl (.inl rfl))) (fun _ _ _ _ _ => pts_nil) (fun _ _ _ _ _ => (pe_and (pe_cl c__law_whole hr (by omega) (by rfl) (pa_cons (pv 2) pa_nil)) (pe_one (pe_chain op_le op_lt pe_int (pv 2) (pv 1)))))) pa_nil))))))).pt
          (pss_one (ps_ret pe_bl))
          pss_nil)
      (pss_one (ps_ret (pe_callB (kc_all (K := K)) (by rfl) T.all (by decide +kernel) (pa_cons (pe_lc (own := [("_law_one", 2), ("_law_other", 3)]) rfl nd (ki_zip (K := K) (by rfl) T.zip (pa_cons (pv 0) (pa_cons (pe_slice (kl_list (K := K)) (pv 0) (po_some pe_int) po_none) pa_nil))) (blkOk_by (N := n__law_rising) (sc := defScope s__law_rising) (by decide +kernel)) (fun _ _ _ _ _ => (kg_tup (K := K) (n := 2) (pgs_cons (pg_name (i := 2) nd rfl (.inl rfl)) (pgs_cons (pg_name (i := 3) nd rfl (.inl rfl)) pgs_nil)))) (fun _ _ _ _ _ => pts_nil) (fun _ _ _ _ _ => (pe_cmpR op_lt (pv 2) (pv 3) (nomark _)))) pa_nil))))), ?_⟩
    refine ⟨_, rfl, _, .ty _, _, _, isListD _, rfl, .ty _, tyx_dp dp, kit_list dp, _, rfl, ?_⟩
    cases dp with
    | @lst a xs ds hS hx =>
      have l4 : ds.length ≤ 4000 := Nat.le_trans (Nat.le_max_left ..) hw
      refine iteF ⟨_, rfl, a, rfl, ⟨_, hS⟩, fun D nD => ?_⟩
      refine lc_it (walk_list (xs := xs)) (PvL H D fun i => ((ds.map (numD 0 (m - 1))).take i).map V.bl) (pv_start nD rfl) (fun i H2 _ h => h.1.seq hS) ?_ ?_
      · rintro i x H2 H3 hi2 p ⟨rfl, gx⟩
        obtain ⟨d, gd, pd⟩ := dpAll_at hx gx
        refine ⟨rfl, tYes_at ?_⟩
        rw [if_pos rfl]
        refine ⟨_, rfl, x, d, rfl, dp_same p.1 pd, fun H4 s4 => ⟨_, rfl, ?_⟩⟩
        have fin := pv_put nD p s4 (take_map V.bl (show (ds.map (numD 0 (m - 1)))[i]? = some (numD 0 (m - 1) d) by rw [List.getElem?_map, gd]; rfl)) (take_len_le (by rw [List.length_map]; omega))
        cases pd with
        | int z =>
          refine iteT ⟨_, rfl, _, _, rfl, rfl, _, rfl, ite2 (fun h1 => ⟨_, rfl, _, _, rfl, rfl, ?_⟩) (fun h1 => ?_)⟩
          · have e : numD 0 (m - 1) (.int z) = decide (z < m) := by
              show (decide (0 ≤ z) && decide (z ≤ m - 1)) = _
              rw [h1, Bool.true_and, Bool.eq_iff_iff, decide_eq_true_eq, decide_eq_true_eq]
              omega
            rw [e] at fin; exact fin
          · have e : numD 0 (m - 1) (.int z) = false := by show (decide (0 ≤ z) && _) = _; rw [Bool.not_eq_true _ |>.mp h1]; rfl
            rw [e] at fin; exact fin
        | bl b => exact iteF fin
        | non => exact iteF fin
        | str _ => exact iteF fin
        | lst _ _ => exact iteF fin
        | tup _ _ => exact iteF fin
      · intro H2 p
        obtain ⟨sm, hD⟩ := pv_end p (take_all (by rw [List.length_map, dpAll_len hx]; exact Nat.le_refl _))
        refine ⟨D, _, rfl, SqL.of hD, ?_⟩
        rw [all_map]
        refine ⟨_, rfl, ?_⟩
        cases ha : ds.all (numD 0 (m - 1)) with
        | false =>
          refine iteT ?_
          have e : risD 0 (m - 1) (.list ds) = false := by show (ds.all (numD 0 (m - 1)) && _) = _; rw [ha]; rfl
          rw [e] at q; exact q _ sm
        | true =>
          refine iteF ?_
          obtain ⟨en, bn⟩ := nums_of ha
          rw [en] at hx
          have ex := dp_intsV hx
          have en2 : risD 0 (m - 1) (.list ds) = risI (ds.map toI) := by show (ds.all (numD 0 (m - 1)) && _) = _; rw [ha]; rfl
          rw [en2] at q
          have ln : (ds.map toI).length ≤ 4000 := by rw [List.length_map]; exact l4
          generalize ds.map toI = ns at ex q ln
          subst ex
          refine ⟨_, rfl, _, rfl, 1, rfl, a, _, rfl, sm.seq hS, fun e ne => ?_⟩
          have ce : cutV (ns.map V.int) (some 1) none = (ns.drop 1).map V.int := by rw [show (1 : Int) = ((1 : Nat) : Int) from rfl, cut_tail, List.map_drop]
          have he : upd H2 e (.lst (cutV (ns.map V.int) (some 1) none)) e = some (.lst ((ns.drop 1).map V.int)) := by rw [upd_same, ce]
          have s1 := sm.trans (same_upd (o := .lst (cutV (ns.map V.int) (some 1) none)) ne)
          generalize upd H2 e (.lst (cutV (ns.map V.int) (some 1) none)) = H5 at he s1 ⊢
          have hS := s1.seq hS
          refine ⟨a, e, _, _, rfl, .inl ⟨hS, SqL.of he, fun C nC => ?_⟩⟩
          refine lc_it (walk_zip (xs := ns.map V.int) (ys := (ns.drop 1).map V.int) (n := (rb ns).length) (by rw [rb_len, List.length_map, List.length_map, List.length_drop]; omega)) (PvL H5 C fun i => ((rb ns).take i).map V.bl)
            (pv_start nC rfl) (fun i H2 _ h => ⟨h.1.seq hS, SqL.of (h.1 _ _ he)⟩) ?_ ?_
          · rintro i v H2 H3 hi p ⟨u, x1, y1, rfl, hu, rfl, gx, gy⟩
            replace gx : (ns.map V.int)[i]? = some x1 := gx
            replace gy : ((ns.drop 1).map V.int)[i]? = some y1 := gy
            rw [List.getElem?_map] at gx gy
            obtain ⟨x, gx1, rfl⟩ := Option.map_eq_some_iff.mp gx
            obtain ⟨y, gy1, rfl⟩ := Option.map_eq_some_iff.mp gy
            rw [List.getElem?_drop, Nat.add_comm] at gy1
            refine ⟨u, _, rfl, .inl (.inl upd_same), rfl, _, _, rfl, _, _, rfl, rfl, rfl, tYes_at ?_⟩
            rw [if_pos rfl]
            refine ⟨_, rfl, _, rfl, _, _, rfl, rfl, ?_⟩
            exact pv_put nC p (same_upd hu) (take_map V.bl (rb_at gx1 gy1)) (take_len_le (by rw [rb_len]; omega))
          · intro H6 p
            obtain ⟨sm6, hC⟩ := pv_end p (take_all (Nat.le_refl _))
            refine ⟨C, _, rfl, SqL.of hC, ?_⟩
            rw [rb_all]
            exact q _ (s1.trans sm6)
    | int i => exact iteT (q _ (Same.refl _))
    | bl b => exact iteT (q _ (Same.refl _))
    | non => exact iteT (q _ (Same.refl _))
    | str _ => exact iteT (q _ (Same.refl _))
    | tup _ _ => exact iteT (q _ (Same.refl _))
abbrev s__law_fits : Stmt := topS 23
def n__law_fits : List Str := ["_law_pieces_here", "_law_slots_here", "_law_thing", "_law_some", "_law_number", "_law_come", "_law_cool"]
theorem sc__law_fits : FnScope n__law_fits ["_law_pieces_here", "_law_slots_here", "_law_thing"] (defScope s__law_fits) := ⟨rfl, rfl, rfl, by decide +kernel, rfl, by decide +kernel, by decide +kernel⟩
def spLFits (K : PySem.W.Frag) : Sp := fun vs H Q _ => ∃ (a : Addr) (xs : List V) (ps : List Pc) (sl : Nat) (x : V) (d : PyData), vs = [.ref a, .int (sl : Nat), x] ∧ SqL K H a xs ∧ DpAll K H xs (ps.map pcD) ∧ ps.length ≤ 60 ∧ Dp K H x d ∧ widAll.wid d ≤ 4000 ∧ ∀ H', Same H H' → Q (.bl (fitsD ps sl d)) H'
theorem ok_lfits {f : Addr} {fd : FuncData} {k : Nat} (F : Fun K "_law_fits" "_law_fits" s__law_fits f fd) (T : Txt mg) (c__law_rising : Cl P w K mg base (k + 2) "_law_rising" (spLRis K)) (c__law_here : Cl P w K mg base (k + 1) "_law_here" (spAt K)) : FnOk P w K mg base CX0 (k + 3) f fd ["_law_pieces_here", "_law_slots_here", "_law_thing"] (spLFits K) := by
  refine F.ok sc__law_fits (fun vs H Q E h => ?_) (fun cdv A outer s H vs Q E hr h => ?_)
  · obtain ⟨a, xs, ps, sl, x, d, rfl, _⟩ := h
    rfl
  · obtain ⟨a, xs, ps, sl, x, d, rfl, hS, dx, l60, dp, hw, q⟩ := h
    have nd := sc__law_fits.nd
    have lx : xs.length = ps.length := dpAll_map_len dx
    /- 0 _law_pieces_here, 1 _law_slots_here, 2 _law_thing, 3 _law_some, 4 _law_number, 5 _law_come, 6 _law_cool -/
    refine ⟨_, (pss_cons (ps_if (pt_not (pt_val (pe_cl c__law_rising hr (by omega) (by rfl) (pa_cons (pv 2) (pa_cons (pe_callB (kc_len (K := K)) (by rfl) T.len PySem.boot_len (pa_cons (pv 0) pa_nil)) pa_nil)))))
          (pss_one (ps_ret pe_bl))
          pss_nil)
      (pss_cons (ps_set (i := 3) nd rfl (.inr rfl) (pe_lc (own := [("_law_number", 4)]) rfl nd (ki_list (K := K) (pv 2)) (blkOk_by (N := n__law_fits) (sc := defScope s__law_fits) (by decide +kernel)) (fun _ _ _ _ _ => (pg_name (i := 4) nd rfl (.inl rfl))) (fun _ _ _ _ _ => pts_nil) (fun _ _ _ _ _ => (pe_ix (kx_list (K := K)) (pv 0) (pv 4) (fun _ _ => rfl)))))
      (pss_one (ps_ret (pe_callB (kc_all (K := K)) (by rfl) T.all (by decide +kernel) (pa_cons (pe_lc (own := [("_law_come", 5), ("_law_cool", 6)]) rfl nd (ki_list (K := K) (pv 3)) (blkOk_by (N := n__law_fits) (sc := defScope s__law_fits) (by decide +kernel)) (fun _ _ _ _ _ => (kg_tup (K := K) (n := 2) (pgs_cons (pg_name (i := 5) nd rfl (.inl rfl)) (pgs_cons (pg_name (i := 6) nd rfl (.inl rfl)) pgs_nil)))) (fun _ _ _ _ _ => pts_nil) (fun _ _ _ _ _ => (pe_cmpR op_le (pe_callB (kc_len (K := K)) (by rfl) T.len PySem.boot_len (pa_cons (pe_cl c__law_here hr (by omega) (by rfl) (pa_cons (pv 3) (pa_cons (pv 5) pa_nil))) pa_nil)) (pv 1) (nomark _)))) pa_nil)))))), ?_⟩
    refine ⟨_, rfl, _, rfl, _, _, rfl, .inl ⟨_, hS, rfl⟩, x, d, (xs.length : Int), rfl, dp, hw, fun H1 s1 => ⟨_, rfl, ?_⟩⟩
    rw [lx]
    cases hr : risD 0 ((ps.length : Int) - 1) d with
    | false =>
      refine iteT ?_
      have e : fitsD ps sl d = false := by unfold fitsD; rw [hr]; rfl
      rw [e] at q
      exact q _ s1
    | true =>
      refine iteF ?_
      cases dp with
      | int _ => cases (show false = true from hr)
      | bl _ => cases (show false = true from hr)
      | non => cases (show false = true from hr)
      | str _ => cases (show false = true from hr)
      | tup _ _ => cases (show false = true from hr)
      | @lst t vs ds hT hv =>
        obtain ⟨S, rfl, eS, pw, bS⟩ := nats_ok hr
        have e : fitsD ps sl (.list ((S.map fun k => ((k : Nat) : Int)).map PyData.int)) = fitB ps sl S := by unfold fitsD; rw [hr, eS]; rfl
        rw [e] at q
        obtain rfl := dp_intsV hv
        have lS := nats_len pw bS
        have hS1 := s1.seq hS
        have hT1 := s1.seq hT
        have dx1 := dpAll_same s1 dx
        clear hr eS e hw hv
        refine ⟨_, rfl, t, rfl, ⟨_, hT1⟩, fun D nD => ?_⟩
        refine lc_it (walk_list (xs := (S.map fun k => ((k : Nat) : Int)).map V.int)) (PvL H1 D fun i => ((S.map fun k => xs.getD k .non).take i)) (pv_start nD rfl) (fun i H2 _ h => h.1.seq hT1) ?_ ?_
        · rintro i y H2 H3 hi p ⟨rfl, gx⟩
          rw [List.getElem?_map, List.getElem?_map] at gx
          obtain ⟨z, gz, rfl⟩ := Option.map_eq_some_iff.mp gx
          obtain ⟨k0, gk, rfl⟩ := Option.map_eq_some_iff.mp gz
          have hk := bS k0 (List.mem_of_getElem? gk)
          refine ⟨rfl, tYes_at ?_⟩
          rw [if_pos rfl]
          refine ⟨_, rfl, _, rfl, a, _, _, _, rfl, rfl, p.1.seq hS1, atI_nat (List.getElem?_eq_getElem (show k0 < xs.length by omega)), ?_⟩
          refine pv_put nD p (Same.refl _) ?_ (by rw [List.length_take, List.length_map, sizeLine_eq]; omega)
          rw [List.take_add_one, List.getElem?_map, gk]
          show _ ++ [xs.getD k0 .non] = _
          rw [List.getD_eq_getElem?_getD, List.getElem?_eq_getElem (show k0 < xs.length by omega)]; rfl
        · intro H2 p
          obtain ⟨s2, hD⟩ := pv_end p (show _ = S.map fun k => xs.getD k .non by exact List.take_of_length_le (by rw [List.length_map, List.length_map, List.length_map]; exact Nat.le_refl _))
          have dS := dpAll_same s2 (dp_sub dx1 bS)
          have s12 := s1.trans s2
          clear p
          refine ⟨_, rfl, D, rfl, ⟨_, SqL.of hD⟩, fun C nC => ?_⟩
          refine lc_it (walk_list (xs := S.map fun k => xs.getD k .non)) (PvL H2 C fun i => (((S.map fun p => decide (S.countP (innF ps (cmF ps p)) ≤ sl)).take i).map V.bl)) (pv_start nC rfl) (fun i H3 _ h => SqL.of (h.1 _ _ hD)) ?_ ?_
          · rintro i y Ha Hb hi p ⟨rfl, gx⟩
            obtain ⟨b2, rfl, hb2, hi2, _⟩ := pcs_at (dpAll_same p.1 dS) gx
            rw [List.length_map] at hi hi2
            have gk : S[i]? = some (S[i]'hi) := List.getElem?_eq_getElem hi
            have e : (S.map fun k => ps.getD k pc0).getD i pc0 = ps.getD S[i] pc0 := by rw [List.getD_eq_getElem?_getD, List.getElem?_map, gk]; rfl
            rw [e] at hb2
            refine ⟨b2, _, rfl, hb2, rfl, _, _, rfl, _, _, rfl, rfl, rfl, tYes_at ?_⟩
            rw [if_pos rfl]
            refine ⟨_, rfl, _, rfl, D, _, S.map (fun k => ps.getD k pc0), cmF ps S[i], rfl, SqL.of (p.1 _ _ hD), dpAll_same p.1 dS, by rw [List.length_map]; omega, fun Hc Ar sc nAr hAr => ?_⟩
            refine ⟨_, _, rfl, .inl ⟨_, SqL.of hAr, rfl⟩, _, rfl, _, _, rfl, rfl, ?_⟩
            have el : (fun i j : Int => V.bl (decide (i ≤ j))) ((((hereF (S.map fun k => ps.getD k pc0) (cmF ps S[i])).map V.int).length : Nat) : Int) ((sl : Nat) : Int) = V.bl (decide (S.countP (innF ps (cmF ps S[i])) ≤ sl)) := by
              have := here_sub (ps := ps) (S := S) (h := cmF ps S[i]) S.length (Nat.le_refl _)
              rw [List.take_length] at this
              refine congrArg V.bl ?_
              rw [List.length_map]
              unfold hereF
              rw [show (S.map fun k => ps.getD k pc0).length = S.length from List.length_map .., List.length_map, this, Bool.eq_iff_iff, decide_eq_true_eq, decide_eq_true_eq]
              omega
            rw [el]
            exact pv_put nC p sc (take_map V.bl (by rw [List.getElem?_map, gk]; rfl)) (take_len_le (by rw [List.length_map]; omega))
          · intro H3 p
            obtain ⟨s3, hC⟩ := pv_end p (take_all (by rw [List.length_map, List.length_map]; exact Nat.le_refl _))
            refine ⟨C, _, rfl, SqL.of hC, ?_⟩
            have e : (S.map fun p => decide (S.countP (innF ps (cmF ps p)) ≤ sl)).all id = fitB ps sl S := by
              unfold fitB
              rw [List.all_map]; rfl
            rw [e]
            exact q _ (s12.trans s3)

end
end Pot

namespace Pot
open PySem PySem.Spec PyProof.Rows L2
section
variable {P : Program} {w : World} {K : PySem.W.Frag} {mg : Str → Option Value} {base : Heap}
def cntF (ps : List Pc) : List Int := (List.range ps.length).map fun p => (((hereN ps (cmF ps p) ps.length).length : Nat) : Int)
abbrev s__law_slots : Stmt := topS 24
def n__law_slots : List Str := ["_law_state", "_law_pieces_here", "_law_most", "_law_some", "_law_come", "_law_cool"]
theorem sc__law_slots : FnScope n__law_slots ["_law_state", "_law_pieces_here"] (defScope s__law_slots) := ⟨rfl, rfl, rfl, by decide +kernel, rfl, by decide +kernel, by decide +kernel⟩
def spLSl (K : PySem.W.Frag) : Sp := fun vs H Q _ => ∃ (b a : Addr) (n : Nat) (xs : List V) (ps : List Pc), vs = [.ref b, .ref a] ∧ Bq H b n ∧ n < 2 ^ 39 ∧ off H [b] a = some (.lst xs) ∧ DpAll K (off H [b]) xs (ps.map pcD) ∧ ps.length ≤ 60 ∧
  ∀ (H' : Hp) (sl : Nat), Bq H' b (n + 3) → Sm [b] H H' → sl ≤ 60 → Q (.int (sl : Nat)) H'
theorem ok_lsl {f : Addr} {fd : FuncData} {k : Nat} (F : Fun K "_law_slots" "_law_slots" s__law_slots f fd) (T : Txt mg) (c__law_take : Cl P w K mg base (k + 1) "_law_take" spTake) (c__law_here : Cl P w K mg base (k + 1) "_law_here" (spAt K)) : FnOk P w K mg base CX0 (k + 2) f fd ["_law_state", "_law_pieces_here"] (spLSl K) := by
  refine F.ok sc__law_slots (fun vs H Q E h => ?_) (fun cdv A outer s H vs Q E hr h => ?_)
  · obtain ⟨b, a, n, xs, ps, rfl, _⟩ := h
    rfl
  · obtain ⟨b, a, n, xs, ps, rfl, B, hn, fL, da, l60, q⟩ := h
    have nd := sc__law_slots.nd
    have lx : xs.length = ps.length := dpAll_map_len da
    refine ⟨_, (pss_cons (ps_set (i := 2) nd rfl (.inl rfl) (pe_callB (kc_max (K := K)) (by rfl) T.max (by decide +kernel) (pa_cons (pe_op op_cat (pe_lc (own := [("_law_come", 4), ("_law_cool", 5)]) rfl nd (ki_list (K := K) (pv 1)) (blkOk_by (N := n__law_slots) (sc := defScope s__law_slots) (by decide +kernel)) (fun _ _ _ _ _ => (kg_tup (K := K) (n := 2) (pgs_cons (pg_name (i := 4) nd rfl (.inl rfl)) (pgs_cons (pg_name (i := 5) nd rfl (.inl rfl)) pgs_nil)))) (fun _ _ _ _ _ => pts_nil) (fun _ _ _ _ _ => (pe_callB (kc_len (K := K)) (by rfl) T.len PySem.boot_len (pa_cons (pe_cl c__law_here hr (by omega) (by rfl) (pa_cons (pv 1) (pa_cons (pv 4) pa_nil))) pa_nil)))) (pe_lst (pa_cons pe_int pa_nil))) pa_nil)))
      (pss_cons (ps_set (i := 3) nd rfl (.inl rfl) (pe_lst (pa_cons pe_int (pa_cons pe_int (pa_cons (pe_op op_add pe_int (pe_cl c__law_take hr (by omega) (by rfl) (pa_cons (pv 0) (pa_cons pe_int pa_nil)))) (pa_cons (pv 2) (pa_cons (pe_callB (call_max2 rfl) (by rfl) T.max (by decide +kernel) (pa_cons pe_int (pa_cons (pe_op op_sub (pv 2) pe_int) pa_nil))) (pa_cons (pe_cl c__law_take hr (by omega) (by rfl) (pa_cons (pv 0) (pa_cons (pe_op op_add (pv 2) pe_int) pa_nil))) (pa_cons pe_int pa_nil)))))))))
      (pss_one (ps_ret (pe_ix (kx_list (K := K)) (pv 3) (pe_cl c__law_take hr (by omega) (by rfl) (pa_cons (pv 0) (pa_cons pe_int pa_nil))) (fun _ _ => rfl)))))), ?_⟩
    have hL := at_off fL
    have d0 := dpAll_same off_sub da
    refine ⟨_, rfl, a, rfl, ⟨_, SqL.of hL⟩, fun C nC => ?_⟩
    refine lc_it (walk_list (xs := xs)) (PvL H C fun i => ((cntF ps).take i).map V.int) (pv_start nC rfl) (fun i Ha _ h => SqL.of (h.1 _ _ hL)) ?_ ?_
    · rintro j y Ha Hb hj p ⟨rfl, gx⟩
      obtain ⟨pb, rfl, hb, hj2, _⟩ := pcs_at (dpAll_same p.1 d0) gx
      refine ⟨pb, _, rfl, hb, rfl, _, _, rfl, _, _, rfl, rfl, rfl, tYes_at ?_⟩
      rw [if_pos rfl]
      refine ⟨_, rfl, _, rfl, a, xs, ps, _, rfl, SqL.of (p.1 _ _ hL), dpAll_same p.1 d0, l60, fun Hc Ar sc nAr hAr => ?_⟩
      refine ⟨_, _, rfl, .inl ⟨_, SqL.of hAr, rfl⟩, ?_⟩
      have gc : (cntF ps)[j]? = some (((hereN ps (cmF ps j) ps.length).length : Nat) : Int) := by
        unfold cntF
        rw [List.getElem?_map, List.getElem?_range hj2]; rfl
      have el : (((hereF ps (ps.getD j pc0).1).map V.int).length : Int) = (((hereN ps (cmF ps j) ps.length).length : Nat) : Int) := by
        rw [List.length_map]
        unfold hereF cmF
        rw [List.length_map]
      rw [el]
      exact pv_put nC p sc (take_map V.int gc) (take_len_le (by unfold cntF; rw [List.length_map, List.length_range]; omega))
    · intro H8 p
      obtain ⟨s8, hC⟩ := pv_end p (take_all (by unfold cntF; rw [List.length_map, List.length_range, lx]; exact Nat.le_refl _))
      clear p
      have lcn : (cntF ps).length = ps.length := by unfold cntF; rw [List.length_map, List.length_range]
      refine ⟨(by show 1 ≤ sizeLine; decide), fun Z nZ => ?_⟩
      have s9 := same_upd (o := .lst [.int 0]) nZ
      refine ⟨C, Z, _, _, rfl, rfl, s9 _ _ hC, upd_same, (by rw [List.length_map, lcn, sizeLine_eq]; show _ + 1 ≤ _; omega), fun M nM => ?_⟩
      have em : (cntF ps).map V.int ++ [V.int 0] = (cntF ps ++ [0]).map V.int := by rw [List.map_append]; rfl
      rw [em]
      have sA := (s8.trans s9).trans (same_upd (o := .lst ((cntF ps ++ [0]).map V.int)) nM)
      refine ⟨M, _, rfl, SqL.of upd_same, (by rw [List.length_append]; show 0 < _ + 1; omega), fun m hm hup => ?_⟩
      generalize upd (upd H8 Z (.lst [.int 0])) M (.lst ((cntF ps ++ [0]).map V.int)) = H9 at sA ⊢
      have m0 : 0 ≤ m := hup 0 (List.mem_append_right _ List.mem_cons_self)
      have m1 : m ≤ 60 := by
        rcases List.mem_append.mp hm with z | z
        · obtain ⟨x, _, rfl⟩ := List.mem_map.mp z
          have := hereN_len ps (cmF ps x) ps.length
          omega
        · rw [List.mem_singleton.mp z]; decide
      have B := B.same sA
      have sc := sm_of (S := [b]) sA
      clear hm hup s8 s9 nZ nM em hC nC sA d0 hL fL da
      refine ⟨_, rfl, b, 4, _, rfl, (by decide), (by decide), B, by omega, fun H4 r r0 r1 B4 s4 => ⟨_, _, rfl, rfl, _, rfl, _, rfl, _, _, rfl, rfl, _, _, rfl, _, rfl, _, rfl, _, _, rfl, rfl, b, m + 1, _, rfl, (by omega), (by omega), B4, by omega, fun H5 u u0 u1 B5 s5 => ⟨(by show 7 ≤ sizeLine; decide), fun Lp nLp => ?_⟩⟩⟩
      have ex : ∀ z : Int, 0 ≤ z → z < 7 → ∃ x : Nat, atI [V.int 0, V.int 1, V.int (2 + r), V.int m, V.int (if m - 1 > 0 then m - 1 else 0), V.int u, V.int 60] z = some (.int (x : Int)) ∧ x ≤ 60 := fun z z0 z1 => by
        have h : z = 0 ∨ z = 1 ∨ z = 2 ∨ z = 3 ∨ z = 4 ∨ z = 5 ∨ z = 6 := by omega
        have mk : ∀ {y : Int}, 0 ≤ y → y ≤ 60 → ∃ x : Nat, some (V.int y) = some (V.int (x : Int)) ∧ x ≤ 60 := fun {y} h1 h2 => ⟨y.toNat, by rw [show ((y.toNat : Nat) : Int) = y by omega], by omega⟩
        rcases h with rfl | rfl | rfl | rfl | rfl | rfl | rfl
        · exact mk (y := 0) (by omega) (by omega)
        · exact mk (y := 1) (by omega) (by omega)
        · exact mk (y := 2 + r) (by omega) (by omega)
        · exact mk (y := m) (by omega) (by omega)
        · exact mk (y := if m - 1 > 0 then m - 1 else 0) (by split <;> omega) (by split <;> omega)
        · exact mk (y := u) (by omega) (by omega)
        · exact mk (y := 60) (by omega) (by omega)
      have Lb : Lp ≠ b := B5.ne nLp
      have hLp : upd H5 Lp (.lst [V.int 0, V.int 1, V.int (2 + r), V.int m, V.int (if m - 1 > 0 then m - 1 else 0), V.int u, V.int 60]) Lp = some (.lst [V.int 0, V.int 1, V.int (2 + r), V.int m, V.int (if m - 1 > 0 then m - 1 else 0), V.int u, V.int 60]) := upd_same
      have B6 := B5.same (same_upd (o := .lst [V.int 0, V.int 1, V.int (2 + r), V.int m, V.int (if m - 1 > 0 then m - 1 else 0), V.int u, V.int 60]) nLp)
      have s6 := sm_put (S := [b]) (o := .lst [V.int 0, V.int 1, V.int (2 + r), V.int m, V.int (if m - 1 > 0 then m - 1 else 0), V.int u, V.int 60]) nLp
      refine ⟨_, rfl, _, rfl, b, 7, _, rfl, (by decide), (by decide), B6, by omega, fun H7 z z0 z1 B7 s7 => ?_⟩
      obtain ⟨x, ga, x60⟩ := ex z z0 z1
      exact ⟨Lp, _, z, _, rfl, rfl, SqL.of (sm_at s7 (by simp [Lb]) hLp), ga, q H7 x B7 ((((sc.trans s4).trans s5).trans s6).trans s7) x60⟩

theorem sm_lists {H H' : Hp} {S : List Addr} (h : ∀ s ∈ S, ∃ xs, H s = some (.lst xs)) (s : Sm S H H') {b : Addr} {o : HO} (e : H b = some o) (n : ∀ xs, o ≠ .lst xs) : H' b = some o := sm_at s (fun hb => by
  obtain ⟨xs, e2⟩ := h b hb
  rw [e] at e2
  exact n xs (Option.some.inj e2)) e
theorem tabs_sm {T : List (Addr × Str)} {H H' : Hp} {S : List Addr} (h : ∀ s ∈ S, ∃ xs, H s = some (.lst xs)) (s : Sm S H H') (t : LamX.Tabs T H) : LamX.Tabs T H' := fun p hp => by
  obtain ⟨ps, h1, h2, h3⟩ := t p hp
  exact ⟨ps, sm_lists h s h1 (fun xs z => by cases z), h2, fun pos cv hc => (h3 pos cv hc).imp fun c z => ⟨z.1, sm_lists h s z.2 (fun xs q => by unfold LamX.CodeO at q; cases q)⟩⟩
theorem extN_sm {H H1 H2 : Hp} {S : List Addr} (x : LamX.ExtN H H1) (s : Sm S H1 H2) (f : ∀ s ∈ S, H s = none) : LamX.ExtN H H2 := fun b o e n => sm_at s (fun hb => by rw [f b hb] at e; cases e) (x b o e n)
theorem pcs_wr {H : Hp} {R : Addr} {us : List V} {o : HO} (h : H R = some (.lst us)) : ∀ {ps : List Pc} {xs : List V}, DpAll K H xs (ps.map pcD) → DpAll K (upd H R o) xs (ps.map pcD)
  | [], _, z => by
    cases z
    exact .nil
  | p :: ps, _, z => by
    cases z with
    | cons a r =>
      obtain ⟨t, rfl, ht⟩ := pc_dp a
      have ne : ∀ {u : HO}, H t = some u → (∀ l, u ≠ .lst l) → t ≠ R := fun e n z => by rw [z, h] at e; exact n _ (Option.some.inj e).symm
      refine .cons (.tup ?_ (.cons (.int _) (.cons (.int _) .nil))) (pcs_wr h r)
      rcases ht with (ht | ⟨o, ht⟩) | ht
      · exact .inl (.inl ((upd_ne (ne ht fun l z => by cases z)).trans ht))
      · exact .inl (.inr ⟨o, (upd_ne (ne ht fun l z => by cases z)).trans ht⟩)
      · exact .inr ht
theorem ints_gd (ns : List Int) : ∃ m, gd m (.list (ns.map PyData.int)) := by
  induction ns with
  | nil => exact ⟨0, trivial⟩
  | cons x ns ih =>
    obtain ⟨m, h⟩ := ih
    exact ⟨x.natAbs + m, by show x.natAbs ≤ _; omega, gdAll_mono (by omega) _ h⟩
theorem ints_depth (ns : List Int) : PyData.depth (.list (ns.map PyData.int)) < 4 := by
  show PyData.depthAll _ + 1 < 4
  have : PyData.depthAll (ns.map PyData.int) ≤ 1 := depthAll_iff.mpr fun d hd => by
    obtain ⟨p, hp, rfl⟩ := List.mem_map.mp hd
    simp [PyData.depth]
  omega
theorem ints_wid {ns : List Int} (h : ns.length ≤ 1000) : widAll.wid (.list (ns.map PyData.int)) ≤ 1000 := by
  show max (ns.map PyData.int).length (widAll (ns.map PyData.int)) ≤ 1000
  refine Nat.max_le.mpr ⟨by rw [List.length_map]; exact h, widAll_iff.mpr fun e he => ?_⟩
  obtain ⟨g, _, rfl⟩ := List.mem_map.mp he
  exact Nat.zero_le _
def intsD (ns : List Int) : PyData := .list (ns.map PyData.int)
theorem ints_shaped {ns : List Int} : SeqAt.shaped (intsD ns) = true := by
  obtain ⟨m, h⟩ := ints_gd ns
  exact gd_shaped h (Nat.le_trans (Nat.le_of_lt (ints_depth ns)) (by decide))
theorem rgV_range (m : Nat) : rgV 0 (m : Nat) = ((List.range m).map fun i => ((i : Nat) : Int)).map V.int := by
  unfold rgV
  rw [List.map_map, Int.sub_zero, Int.toNat_natCast]
  refine List.map_congr_left fun i _ => ?_
  rw [Int.zero_add]; rfl
/-- all but lists and tables stays -/
def Nl (H H' : Hp) : Prop := ∀ x o, H x = some o → (∀ l, o ≠ .lst l) → (∀ p, o ≠ .tbl p) → H' x = some o
theorem Nl.refl (H : Hp) : Nl H H := fun _ _ h _ _ => h
theorem Nl.trans {H H1 H2 : Hp} (a : Nl H H1) (b : Nl H1 H2) : Nl H H2 := fun x o h n m => b x o (a x o h n m) n m
theorem Nl.same {H H' : Hp} (s : Same H H') : Nl H H' := fun x o h _ _ => s x o h
theorem Nl.ext {H H' : Hp} (s : LamX.ExtN H H') : Nl H H' := fun x o h _ m => s x o h m
theorem Nl.box {H H' : Hp} {b : Addr} (s : Sm [b] H H') (B : Bx H b) : Nl H H' := fun x o h n _ => by
  have ne : x ≠ b := fun z => by
    obtain ⟨_, _, _, e⟩ := B
    rw [z, e] at h
    exact n _ (Option.some.inj h).symm
  exact sm_at s (by simp [ne]) h
theorem Nl.put {H : Hp} {p : Addr} {o : HO} (h : H p = none) : Nl H (upd H p o) := Nl.same (same_upd h)
theorem Nl.wr {H : Hp} {p : Addr} {o : HO} {l : List V} (h : H p = some (.lst l)) : Nl H (upd H p o) := fun x u e n _ => by
  have ne : x ≠ p := fun z => by rw [z, h] at e; exact n _ (Option.some.inj e).symm
  rw [upd_ne ne]; exact e
theorem sqT_nl {H H' : Hp} {a : Addr} {xs : List V} (s : Nl H H') (h : SqT K H a xs) : SqT K H' a xs := by
  rcases h with (h | ⟨o, h⟩) | h
  · exact .inl (.inl (s _ _ h (fun l z => by cases z) fun l z => by cases z))
  · exact .inl (.inr ⟨o, s _ _ h (fun l z => by cases z) fun l z => by cases z⟩)
  · exact .inr h
theorem pcs_nl {H H' : Hp} (s : Nl H H') : ∀ {ps : List Pc} {xs : List V}, DpAll K H xs (ps.map pcD) → DpAll K H' xs (ps.map pcD)
  | [], _, h => by
    cases h
    exact .nil
  | p :: ps, _, h => by
    cases h with
    | cons a r =>
      obtain ⟨t, rfl, ht⟩ := pc_dp a
      exact .cons (.tup (sqT_nl s ht) (.cons (.int _) (.cons (.int _) .nil))) (pcs_nl s r)
theorem nl_sm {H H' : Hp} {S : List Addr} (h : ∀ s ∈ S, ∃ xs, H s = some (.lst xs)) (s : Sm S H H') : Nl H H' := fun _ _ e n _ => sm_lists h s e n
theorem seq_mid {t u : TS} {D} {σ : L2.St} {H : Hp} (G : L2.St → Hp → Prop) (h1 : ∀ N : L2.St → Hp → Prop, (∀ σ' H', G σ' H' → N σ' H') → t { D with nx := N } σ H) (h2 : ∀ σ' H', G σ' H' → u D σ' H') : tSeq t u D σ H := h1 (u D) h2

def spNum (K : PySem.W.Frag) : Sp := fun vs H Q _ => ∃ (x : V) (d : PyData) (lo hi : Int), vs = [x, .int lo, .int hi] ∧ Dp K H x d ∧ Q (.bl (numD lo hi d)) H
/-! ### is_number: whether it's a number within bounds -/
abbrev s_is_number : Stmt := topS 1
def n_is_number : List Str := ["thing", "low", "high"]
theorem sc_is_number : FnScope n_is_number ["thing", "low", "high"] (defScope s_is_number) := ⟨rfl, rfl, rfl, by decide +kernel, rfl, by decide +kernel, by decide +kernel⟩
theorem ok_num {f : Addr} {fd : FuncData} {k : Nat} (F : Fun K "is_number" "is_number" s_is_number f fd) (T : Txt mg) : FnOk P w K mg base CX0 (k + 1) f fd ["thing", "low", "high"] (spNum K) := by
  refine F.ok sc_is_number (fun vs H Q E h => ?_) (fun cdv A outer s H vs Q E hr h => ?_)
  · obtain ⟨x, d, lo, hi, rfl, _⟩ := h
    rfl
  · obtain ⟨x, d, lo, hi, rfl, dp, q⟩ := h
    have nd := sc_is_number.nd
    refine ⟨_, (pss_one (ps_ret (pe_and (pe_callB (kc_isi (K := K)) (by rfl) T.isinstance (by decide +kernel) (pa_cons (pv 0) (pa_cons (pe_bltn (v := .ty "int") (by rfl) T.int (by decide +kernel) rfl) pa_nil))) (pe_and (pe_not (pe_callB (kc_isi (K := K)) (by rfl) T.isinstance (by decide +kernel) (pa_cons (pv 0) (pa_cons (pe_bltn (v := .ty "bool") (by rfl) T.bool (by decide +kernel) rfl) pa_nil)))) (pe_one (pe_chain op_le op_le (pv 1) (pv 0) (pv 2))))))), ?_⟩
    refine ⟨_, rfl, _, .ty _, _, _, isIntD _, rfl, .ty _, tyx_dp dp, kit_int dp, _, rfl, ?_⟩
    have dp2 := dp
    cases dp with
    | int i =>
      refine iteT ⟨_, rfl, _, .ty _, _, _, isBoolD _, rfl, .ty _, tyx_dp dp2, kit_bool dp2, _, rfl, _, rfl, iteT ?_⟩
      refine ⟨_, rfl, _, rfl, _, _, rfl, rfl, _, rfl, ite2 (fun h1 => ⟨_, rfl, _, _, rfl, rfl, ?_⟩) (fun h1 => ?_)⟩
      · have e : numD lo hi (.int i) = decide (i ≤ hi) := by show (decide (lo ≤ i) && _) = _; rw [h1]; rfl
        rw [e] at q; exact q
      · have e : numD lo hi (.int i) = false := by show (decide (lo ≤ i) && _) = _; rw [Bool.not_eq_true _ |>.mp h1]; rfl
        rw [e] at q; exact q
    | bl b =>
      refine iteT ⟨_, rfl, _, .ty _, _, _, isBoolD _, rfl, .ty _, tyx_dp dp2, kit_bool dp2, _, rfl, _, rfl, iteF q⟩
    | non => exact iteF q
    | str _ => exact iteF q
    | lst _ _ => exact iteF q
    | tup _ _ => exact iteF q

/-! ### is_rising of numbers -/
abbrev s_is_rising : Stmt := topS 2
def n_is_rising : List Str := ["keys", "one", "other"]
theorem sc_is_rising : FnScope n_is_rising ["keys"] (defScope s_is_rising) := ⟨rfl, rfl, rfl, by decide +kernel, rfl, by decide +kernel, by decide +kernel⟩
def spRis (K : PySem.W.Frag) : Sp := fun vs H Q _ => ∃ (a : Addr) (ns : List Int), vs = [.ref a] ∧ SqL K H a (ns.map V.int) ∧ ns.length ≤ 4000 ∧ ∀ H', Same H H' → Q (.bl (risI ns)) H'
theorem ok_ris {f : Addr} {fd : FuncData} {k : Nat} (F : Fun K "is_rising" "is_rising" s_is_rising f fd) (T : Txt mg) : FnOk P w K mg base CX0 (k + 1) f fd ["keys"] (spRis K) := by
  refine F.ok sc_is_rising (fun vs H Q E h => ?_) (fun cdv A outer s H vs Q E hr h => ?_)
  · obtain ⟨a, ns, rfl, _⟩ := h
    rfl
  · obtain ⟨a, ns, rfl, hS, h4, q⟩ := h
    have nd := sc_is_rising.nd
    refine ⟨_, (pss_one (ps_ret (pe_callB (kc_all (K := K)) (by rfl) T.all (by decide +kernel) (pa_cons (pe_lc (own := [("one", 1), ("other", 2)]) rfl nd (ki_zip (K := K) (by rfl) T.zip (pa_cons (pv 0) (pa_cons (pe_slice (kl_list (K := K)) (pv 0) (po_some pe_int) po_none) pa_nil))) (blkOk_by (N := n_is_rising) (sc := defScope s_is_rising) (by decide +kernel)) (fun _ _ _ _ _ => (kg_tup (K := K) (n := 2) (pgs_cons (pg_name (i := 1) nd rfl (.inl rfl)) (pgs_cons (pg_name (i := 2) nd rfl (.inl rfl)) pgs_nil)))) (fun _ _ _ _ _ => pts_nil) (fun _ _ _ _ _ => (pe_cmpR op_lt (pv 1) (pv 2) (nomark _)))) pa_nil)))), ?_⟩
    refine ⟨_, rfl, _, rfl, 1, rfl, a, _, rfl, hS, fun e ne => ?_⟩
    have ce : cutV (ns.map V.int) (some 1) none = (ns.drop 1).map V.int := by rw [show (1 : Int) = ((1 : Nat) : Int) from rfl, cut_tail, List.map_drop]
    have he : upd H e (.lst (cutV (ns.map V.int) (some 1) none)) e = some (.lst ((ns.drop 1).map V.int)) := by rw [upd_same, ce]
    have s1 := same_upd (o := .lst (cutV (ns.map V.int) (some 1) none)) ne
    generalize upd H e (.lst (cutV (ns.map V.int) (some 1) none)) = H1 at he s1 ⊢
    have hS := s1.seq hS
    refine ⟨a, e, _, _, rfl, .inl ⟨hS, SqL.of he, fun D nD => ?_⟩⟩
    refine lc_it (walk_zip (xs := ns.map V.int) (ys := (ns.drop 1).map V.int) (n := (rb ns).length) (by rw [rb_len, List.length_map, List.length_map, List.length_drop]; omega)) (PvL H1 D fun i => ((rb ns).take i).map V.bl)
      (pv_start nD rfl) (fun i H2 _ h => ⟨h.1.seq hS, SqL.of (h.1 _ _ he)⟩) ?_ ?_
    · rintro i v H2 H3 hi p ⟨u, x1, y1, rfl, hu, rfl, gx, gy⟩
      replace gx : (ns.map V.int)[i]? = some x1 := gx
      replace gy : ((ns.drop 1).map V.int)[i]? = some y1 := gy
      rw [List.getElem?_map] at gx gy
      obtain ⟨x, gx1, rfl⟩ := Option.map_eq_some_iff.mp gx
      obtain ⟨y, gy1, rfl⟩ := Option.map_eq_some_iff.mp gy
      rw [List.getElem?_drop, Nat.add_comm] at gy1
      refine ⟨u, _, rfl, .inl (.inl upd_same), rfl, _, _, rfl, _, _, rfl, rfl, rfl, tYes_at ?_⟩
      rw [if_pos rfl]
      refine ⟨_, rfl, _, rfl, _, _, rfl, rfl, ?_⟩
      exact pv_put nD p (same_upd hu) (take_map V.bl (rb_at gx1 gy1)) (take_len_le (by rw [rb_len]; omega))
    · intro H2 p
      obtain ⟨sm, hD⟩ := pv_end p (take_all (Nat.le_refl _))
      refine ⟨D, _, rfl, SqL.of hD, ?_⟩
      rw [rb_all]
      exact q _ (s1.trans sm)

/-! ### are_rising -/
abbrev s_are_rising : Stmt := topS 3
def n_are_rising : List Str := ["thing", "low", "high", "part"]
theorem sc_are_rising : FnScope n_are_rising ["thing", "low", "high"] (defScope s_are_rising) := ⟨rfl, rfl, rfl, by decide +kernel, rfl, by decide +kernel, by decide +kernel⟩
def spAre (K : PySem.W.Frag) : Sp := fun vs H Q _ => ∃ (x : V) (d : PyData) (lo hi : Int), vs = [x, .int lo, .int hi] ∧ Dp K H x d ∧ widAll.wid d ≤ 4000 ∧ ∀ H', Same H H' → Q (.bl (risD lo hi d)) H'
theorem ok_are {f : Addr} {fd : FuncData} {k : Nat} (F : Fun K "are_rising" "are_rising" s_are_rising f fd) (T : Txt mg) (c_is_number : Cl P w K mg base (k + 1) "is_number" (spNum K)) (c_is_rising : Cl P w K mg base (k + 1) "is_rising" (spRis K)) : FnOk P w K mg base CX0 (k + 2) f fd ["thing", "low", "high"] (spAre K) := by
  refine F.ok sc_are_rising (fun vs H Q E h => ?_) (fun cdv A outer s H vs Q E hr h => ?_)
  · obtain ⟨x, d, lo, hi, rfl, _⟩ := h
    rfl
  · obtain ⟨x, d, lo, hi, rfl, dp, hw, q⟩ := h
    have nd := sc_are_rising.nd
    refine ⟨_, (pss_one (ps_ret (pe_and (pe_callB (kc_isi (K := K)) (by rfl) T.isinstance (by decide +kernel) (pa_cons (pv 0) (pa_cons (pe_bltn (v := .ty "list") (by rfl) T.list (by decide +kernel) rfl) pa_nil))) (pe_and (pe_callB (kc_all (K := K)) (by rfl) T.all (by decide +kernel) (pa_cons (pe_lc (own := [("part", 3)]) rfl nd (ki_list (K := K) (pv 0)) (blkOk_by (N := n_are_rising) (sc := defScope s_are_rising) (by decide +kernel)) (fun _ _ _ _ _ => (pg_name (i := 3) nd rfl (.inl rfl))) (fun _ _ _ _ _ => pts_nil) (fun _ _ _ _ _ => (pe_cl c_is_number hr (by omega) (by rfl) (pa_cons (pv 3) (pa_cons (pv 1) (pa_cons (pv 2) pa_nil)))))) pa_nil)) (pe_one (pe_cl c_is_rising hr (by omega) (by rfl) (pa_cons (pv 0) pa_nil))))))), ?_⟩
    refine ⟨_, rfl, _, .ty _, _, _, isListD _, rfl, .ty _, tyx_dp dp, kit_list dp, _, rfl, ?_⟩
    cases dp with
    | @lst a xs ds hS hx =>
      have l4 : ds.length ≤ 4000 := Nat.le_trans (Nat.le_max_left ..) hw
      refine iteT ⟨_, rfl, a, rfl, ⟨_, hS⟩, fun D nD => ?_⟩
      refine lc_it (walk_list (xs := xs)) (PvL H D fun i => ((ds.map (numD lo hi)).take i).map V.bl) (pv_start nD rfl) (fun i H2 _ h => h.1.seq hS) ?_ ?_
      · rintro i x H2 H3 hi2 p ⟨rfl, gx⟩
        obtain ⟨d, gd, pd⟩ := dpAll_at hx gx
        refine ⟨rfl, tYes_at ?_⟩
        rw [if_pos rfl]
        refine ⟨_, rfl, _, rfl, _, rfl, x, d, lo, hi, rfl, dp_same p.1 pd, ?_⟩
        exact pv_put nD p (Same.refl _) (take_map V.bl (by rw [List.getElem?_map, gd]; rfl)) (take_len_le (by rw [List.length_map]; omega))
      · intro H2 p
        obtain ⟨sm, hD⟩ := pv_end p (take_all (by rw [List.length_map, dpAll_len hx]; exact Nat.le_refl _))
        refine ⟨D, _, rfl, SqL.of hD, ?_⟩
        rw [all_map]
        refine ⟨_, rfl, ?_⟩
        cases ha : ds.all (numD lo hi) with
        | false =>
          refine iteF ?_
          have e : risD lo hi (.list ds) = false := by show (ds.all (numD lo hi) && _) = _; rw [ha]; rfl
          rw [e] at q; exact q _ sm
        | true =>
          refine iteT ?_
          obtain ⟨en, bn⟩ := nums_of ha
          rw [en] at hx
          have ex := dp_intsV hx
          rw [ex] at hS
          refine ⟨_, rfl, a, ds.map toI, rfl, sm.seq hS, by rw [List.length_map]; exact l4, fun H3 s3 => ?_⟩
          have e : risD lo hi (.list ds) = risI (ds.map toI) := by show (ds.all (numD lo hi) && _) = _; rw [ha]; rfl
          rw [e] at q; exact q _ (sm.trans s3)
    | int i => exact iteF (q _ (Same.refl _))
    | bl b => exact iteF (q _ (Same.refl _))
    | non => exact iteF (q _ (Same.refl _))
    | str _ => exact iteF (q _ (Same.refl _))
    | tup _ _ => exact iteF (q _ (Same.refl _))

abbrev s_most_in : Stmt := topS 8
def n_most_in : List Str := ["pieces", "best", "hour", "many"]
theorem sc_most_in : FnScope n_most_in ["pieces"] (defScope s_most_in) := ⟨rfl, rfl, rfl, by decide +kernel, rfl, by decide +kernel, by decide +kernel⟩
def spMost (K : PySem.W.Frag) : Sp := fun vs H Q _ => ∃ (a : Addr) (xs : List V) (ps : List Pc), vs = [.ref a] ∧ SqL K H a xs ∧ DpAll K H xs (ps.map pcD) ∧ ps.length ≤ 60 ∧ ∀ H' t zs, Same H H' → HoursOk ps zs → SqT K H' t [.int (bestF ps zs).1, opV (bestF ps zs).2] → Q (.ref t) H'
theorem ok_most {f : Addr} {fd : FuncData} {k : Nat} (F : Fun K "most_in" "most_in" s_most_in f fd) (T : Txt mg) (c_in_at : Cl P w K mg base (k + 3) "in_at" (spAt K)) (c_hours_of_coming : Cl P w K mg base (k + 1) "hours_of_coming" (spHrs K)) : FnOk P w K mg base CX0 (k + 4) f fd ["pieces"] (spMost K) := by
  refine F.ok sc_most_in (fun vs H Q E h => ?_) (fun cdv A outer s H vs Q E hr h => ?_)
  · obtain ⟨a, xs, ps, rfl, _⟩ := h
    rfl
  · obtain ⟨a, xs, ps, rfl, hS, hx, l60, q⟩ := h
    have nd := sc_most_in.nd
    refine ⟨_, (pss_cons (ps_set (i := 1) nd rfl (.inl rfl) (pe_tup (pa_cons pe_int (pa_cons pe_non pa_nil))))
      (pss_cons (ps_for PassesOwn.never rfl (ki_list (K := K) (pe_cl c_hours_of_coming hr (by omega) (by rfl) (pa_cons (pv 0) pa_nil))) (pg_name (i := 2) nd rfl (.inl rfl))
          (pss_cons (ps_set (i := 3) nd rfl (.inl rfl) (pe_callB (kc_len (K := K)) (by rfl) T.len PySem.boot_len (pa_cons (pe_cl c_in_at hr (by omega) (by rfl) (pa_cons (pv 0) (pa_cons (pv 2) pa_nil))) pa_nil)))
          (pss_one (ps_if (pt_cmpR op_gt (pv 3) (pe_ix (kx_tup (K := K)) (pv 1) pe_int (fun _ _ => rfl)) (nomark _))
              (pss_one (ps_set (i := 1) nd rfl (.inl rfl) (pe_tup (pa_cons (pv 3) (pa_cons (pv 2) pa_nil)))))
              pss_nil))))
      (pss_one (ps_ret (pv 1))))), ?_⟩
    refine ⟨(by show 2 ≤ sizeLine; decide), fun t0 n0 => ?_⟩
    have s0 := same_upd (o := .tup [.int 0, .non]) n0
    have h0 : upd H t0 (.tup [.int 0, .non]) t0 = _ := upd_same
    generalize upd H t0 (.tup [.int 0, .non]) = H0 at s0 h0 ⊢
    refine ⟨_, rfl, a, xs, ps, rfl, s0.seq hS, dpAll_same s0 hx, l60, fun H1 Z zs s1 nZ hZ ok => ?_⟩
    refine ⟨Z, rfl, ⟨_, SqL.of hZ⟩, ?_⟩
    refine for_it (walk_list (xs := zs.map V.int)) (fun i σ H2 => ∃ v2 v3 t, σ = [some (.ref a), some (.ref t), v2, v3] ∧ Same H1 H2 ∧ SqT K H2 t [.int (bestF ps (zs.take i)).1, opV (bestF ps (zs.take i)).2]) ⟨_, _, t0, rfl, Same.refl _, .inl (.inl (s1 _ _ h0))⟩ (fun i σ H4 _ h => by obtain ⟨_, _, _, _, h, _⟩ := h; exact SqL.of (h _ _ hZ)) ?_ ?_
    · rintro i y σ H4 H5 hi ⟨v2, v3, t, rfl, s5, ht⟩ ⟨rfl, gx⟩
      rw [List.getElem?_map] at gx
      obtain ⟨z, gz, rfl⟩ := Option.map_eq_some_iff.mp gx
      have sa := (s0.trans s1).trans s5
      refine ⟨_, rfl, _, rfl, a, xs, ps, z, rfl, sa.seq hS, dpAll_same sa hx, l60, fun H6 L s6 nL hL => ?_⟩
      refine ⟨_, _, rfl, .inl ⟨_, SqL.of hL, rfl⟩, ?_⟩
      refine ⟨_, rfl, _, rfl, t, _, 0, _, rfl, rfl, same_tup s6 ht, rfl, _, _, rfl, rfl, _, rfl, ite2 (fun h1 => ?_) (fun h1 => ?_)⟩
      · have h1 := of_decide_eq_true h1
        rw [List.length_map] at h1
        refine ⟨_, rfl, _, rfl, (by show 2 ≤ sizeLine; decide), fun t2 n2 => ?_⟩
        refine ⟨_, _, t2, rfl, (s5.trans s6).trans (same_upd n2), ?_⟩
        rw [bestF_one gz]; unfold stepM; rw [if_pos h1]
        refine .inl (.inl ?_)
        rw [List.length_map]; exact upd_same
      · have h1 : ¬ (bestF ps (zs.take i)).1 < ((hereF ps z).length : Int) := fun z2 => h1 (decide_eq_true (by rw [List.length_map]; exact z2))
        refine ⟨_, _, t, rfl, s5.trans s6, ?_⟩
        rw [bestF_one gz]; unfold stepM; rw [if_neg h1]
        exact same_tup s6 ht
    · rintro σ H4 ⟨v2, v3, t, rfl, s5, ht⟩
      rw [List.length_map, List.take_length] at ht
      exact ⟨_, rfl, q _ t zs ((s0.trans s1).trans s5) ok ht⟩

theorem best_le {qs : List Pc} {m : Int} (m0 : 0 ≤ m) : ∀ (zs : List Int) (b : Int × Option Int), (zs.foldl (stepM qs) b).1 ≤ m ↔ b.1 ≤ m ∧ ∀ z ∈ zs, ((hereF qs z).length : Int) ≤ m
  | [], b => ⟨fun h => ⟨h, fun z hz => (List.not_mem_nil hz).elim⟩, fun h => h.1⟩
  | z :: zs, b => by
    rw [List.foldl_cons, best_le m0 zs]
    unfold stepM
    split
    · rename_i c
      constructor
      · rintro ⟨h1, h2⟩
        have h1 : ((hereF qs z).length : Int) ≤ m := h1
        exact ⟨by omega, fun y hy => by
          rcases List.mem_cons.mp hy with e | e
          · rw [e]; exact h1
          · exact h2 y e⟩
      · rintro ⟨h1, h2⟩
        exact ⟨h2 z List.mem_cons_self, fun y hy => h2 y (List.mem_cons_of_mem _ hy)⟩
    · rename_i c
      constructor
      · rintro ⟨h1, h2⟩
        exact ⟨h1, fun y hy => by
          rcases List.mem_cons.mp hy with e | e
          · rw [e]; omega
          · exact h2 y e⟩
      · rintro ⟨h1, h2⟩
        exact ⟨h1, fun y hy => h2 y (List.mem_cons_of_mem _ hy)⟩
theorem most_fit {ps : List Pc} {sl : Nat} {S : List Nat} {zs : List Int} (hz : HoursOk (S.map fun k => ps.getD k pc0) zs) : decide ((bestF (S.map fun k => ps.getD k pc0) zs).1 ≤ ((sl : Nat) : Int)) = fitB ps sl S := by
  rw [Bool.eq_iff_iff, decide_eq_true_eq, fitB_iff]
  unfold bestF
  rw [best_le (by omega)]
  have e : ∀ z : Int, ((hereF (S.map fun k => ps.getD k pc0) z).length : Int) = (S.countP (innF ps z) : Nat) := fun z => by
    have := here_sub (ps := ps) (S := S) (h := z) S.length (Nat.le_refl _)
    rw [List.take_length] at this
    unfold hereF
    rw [List.length_map, show (S.map fun k => ps.getD k pc0).length = S.length from List.length_map .., this]
  constructor
  · rintro ⟨_, h⟩ p hp
    have := h (cmF ps p) ((hz.2 _).mpr (List.mem_map.mpr ⟨ps.getD p pc0, List.mem_map.mpr ⟨p, hp, rfl⟩, rfl⟩))
    rw [e] at this
    omega
  · intro F
    refine ⟨by show (0 : Int) ≤ _; omega, fun z hz2 => ?_⟩
    obtain ⟨q, hq, rfl⟩ := List.mem_map.mp ((hz.2 _).mp hz2)
    obtain ⟨p, hp, rfl⟩ := List.mem_map.mp hq
    rw [e]
    have := F p hp
    unfold cmF at this
    omega
abbrev s_shows_cooled : Stmt := topS 15
def n_shows_cooled : List Str := ["pieces", "slots", "thing", "number"]
theorem sc_shows_cooled : FnScope n_shows_cooled ["pieces", "slots", "thing"] (defScope s_shows_cooled) := ⟨rfl, rfl, rfl, by decide +kernel, rfl, by decide +kernel, by decide +kernel⟩
def spShow (K : PySem.W.Frag) : Sp := fun vs H Q _ => ∃ (a : Addr) (xs : List V) (ps : List Pc) (sl : Nat) (x : V) (d : PyData), vs = [.ref a, .int (sl : Nat), x] ∧ SqL K H a xs ∧ DpAll K H xs (ps.map pcD) ∧ ps.length ≤ 60 ∧ Dp K H x d ∧ widAll.wid d ≤ 4000 ∧ ∀ H', Same H H' → Q (.bl (fitsD ps sl d)) H'
theorem ok_show {f : Addr} {fd : FuncData} {k : Nat} (F : Fun K "shows_cooled" "shows_cooled" s_shows_cooled f fd) (T : Txt mg) (c_are_rising : Cl P w K mg base (k + 2) "are_rising" (spAre K)) (c_most_in : Cl P w K mg base (k + 4) "most_in" (spMost K)) : FnOk P w K mg base CX0 (k + 5) f fd ["pieces", "slots", "thing"] (spShow K) := by
  refine F.ok sc_shows_cooled (fun vs H Q E h => ?_) (fun cdv A outer s H vs Q E hr h => ?_)
  · obtain ⟨a, xs, ps, sl, x, d, rfl, _⟩ := h
    rfl
  · obtain ⟨a, xs, ps, sl, x, d, rfl, hS, dx, l60, dp, hw, q⟩ := h
    have nd := sc_shows_cooled.nd
    have lx : xs.length = ps.length := dpAll_map_len dx
    refine ⟨_, (pss_one (ps_ret (pe_and (pe_cl c_are_rising hr (by omega) (by rfl) (pa_cons (pv 2) (pa_cons pe_int (pa_cons (pe_op op_sub (pe_callB (kc_len (K := K)) (by rfl) T.len PySem.boot_len (pa_cons (pv 0) pa_nil)) pe_int) pa_nil)))) (pe_one (pe_cmpR op_le (pe_ix (kx_tup (K := K)) (pe_cl c_most_in hr (by omega) (by rfl) (pa_cons (pe_lc (own := [("number", 3)]) rfl nd (ki_list (K := K) (pv 2)) (blkOk_by (N := n_shows_cooled) (sc := defScope s_shows_cooled) (by decide +kernel)) (fun _ _ _ _ _ => (pg_name (i := 3) nd rfl (.inl rfl))) (fun _ _ _ _ _ => pts_nil) (fun _ _ _ _ _ => (pe_ix (kx_list (K := K)) (pv 0) (pv 3) (fun _ _ => rfl)))) pa_nil)) pe_int (fun _ _ => rfl)) (pv 1) (nomark _)))))), ?_⟩
    refine ⟨_, rfl, _, rfl, _, _, rfl, .inl ⟨_, hS, rfl⟩, _, _, rfl, rfl, x, d, 0, (xs.length : Int) - 1, rfl, dp, hw, fun H1 s1 => ⟨_, rfl, ?_⟩⟩
    rw [lx]
    cases hr : risD 0 ((ps.length : Int) - 1) d with
    | false =>
      refine iteF ?_
      have e : fitsD ps sl d = false := by unfold fitsD; rw [hr]; rfl
      rw [e] at q
      exact q _ s1
    | true =>
      refine iteT ?_
      cases dp with
      | int _ => cases (show false = true from hr)
      | bl _ => cases (show false = true from hr)
      | non => cases (show false = true from hr)
      | str _ => cases (show false = true from hr)
      | tup _ _ => cases (show false = true from hr)
      | @lst t vs ds hT hv =>
        obtain ⟨S, rfl, eS, pw, bS⟩ := nats_ok hr
        have e : fitsD ps sl (.list ((S.map fun k => ((k : Nat) : Int)).map PyData.int)) = fitB ps sl S := by unfold fitsD; rw [hr, eS]; rfl
        rw [e] at q
        obtain rfl := dp_intsV hv
        have lS := nats_len pw bS
        have hS1 := s1.seq hS
        have hT1 := s1.seq hT
        have dx1 := dpAll_same s1 dx
        clear hr eS e hw hv
        refine ⟨_, rfl, t, rfl, ⟨_, hT1⟩, fun D nD => ?_⟩
        refine lc_it (walk_list (xs := (S.map fun k => ((k : Nat) : Int)).map V.int)) (PvL H1 D fun i => ((S.map fun k => xs.getD k .non).take i)) (pv_start nD rfl) (fun i H2 _ h => h.1.seq hT1) ?_ ?_
        · rintro i y H2 H3 hi p ⟨rfl, gx⟩
          rw [List.getElem?_map, List.getElem?_map] at gx
          obtain ⟨z, gz, rfl⟩ := Option.map_eq_some_iff.mp gx
          obtain ⟨k0, gk, rfl⟩ := Option.map_eq_some_iff.mp gz
          have hk := bS k0 (List.mem_of_getElem? gk)
          refine ⟨rfl, tYes_at ?_⟩
          rw [if_pos rfl]
          refine ⟨_, rfl, _, rfl, a, _, _, _, rfl, rfl, p.1.seq hS1, atI_nat (List.getElem?_eq_getElem (show k0 < xs.length by omega)), ?_⟩
          refine pv_put nD p (Same.refl _) ?_ (by rw [List.length_take, List.length_map, sizeLine_eq]; omega)
          rw [List.take_add_one, List.getElem?_map, gk]
          show _ ++ [xs.getD k0 .non] = _
          rw [List.getD_eq_getElem?_getD, List.getElem?_eq_getElem (show k0 < xs.length by omega)]; rfl
        · intro H2 p
          obtain ⟨s2, hD⟩ := pv_end p (show _ = S.map fun k => xs.getD k .non by exact List.take_of_length_le (by rw [List.length_map, List.length_map, List.length_map]; exact Nat.le_refl _))
          have dS := dpAll_same s2 (dp_sub dx1 bS)
          have s12 := s1.trans s2
          clear p
          refine ⟨D, _, S.map (fun k => ps.getD k pc0), rfl, SqL.of hD, dS, by rw [List.length_map]; omega, fun H3 t3 zs s3 hz ht => ?_⟩
          refine ⟨t3, _, 0, _, rfl, rfl, ht, rfl, _, rfl, _, _, rfl, rfl, ?_⟩
          have q := q _ (s12.trans s3)
          rw [← most_fit hz] at q
          exact q

end
end Pot

namespace Pot
open PySem PySem.Spec PyProof.Rows L2
section
variable {P : Program} {w : World} {K : PySem.W.Frag} {mg : Str → Option Value} {base : Heap}
theorem from_asc : ∀ (ts : List Str) (k : Nat) (acc : Str), (∀ c ∈ acc.cps.toList, c < 128) → (∀ t ∈ ts, ∀ c ∈ t.cps.toList, c < 128) → ∀ c ∈ (textFrom k acc ts).cps.toList, c < 128
  | [], k, acc, h, _ => h
  | t :: r, k, acc, h, g => by
    unfold textFrom
    refine from_asc r (k + 1) _ (ascii_app (ascii_app h ?_) (g t List.mem_cons_self)) fun x hx => g x (List.mem_cons_of_mem _ hx)
    split
    · exact ascii_of (by decide +kernel)
    · exact ascii_of (by decide +kernel)
theorem list_asc {ts : List Str} (g : ∀ t ∈ ts, ∀ c ∈ t.cps.toList, c < 128) : ∀ c ∈ (listText ts).cps.toList, c < 128 := ascii_app (from_asc ts 0 _ (ascii_of (by decide +kernel)) g) (ascii_of (by decide +kernel))
theorem tuple_asc {ts : List Str} (g : ∀ t ∈ ts, ∀ c ∈ t.cps.toList, c < 128) : ∀ c ∈ (tupleText ts).cps.toList, c < 128 := by
  unfold tupleText
  refine ascii_app (ascii_app (ascii_of (by decide +kernel)) fun c hc => ?_) ?_
  · rcases (PyProof.Rows.mem_join _ c ts).mp hc with ⟨t, ht, h⟩ | ⟨_, h⟩
    · exact g t ht c h
    · exact ascii_of (s := ", ") (by decide +kernel) c h
  split
  · exact ascii_of (by decide +kernel)
  · exact ascii_of (by decide +kernel)
theorem shownAll_mem : ∀ {ds : List PyData} {t : Str}, t ∈ PyData.shownAll ds → ∃ d ∈ ds, t = d.shown
  | [], t, h => (List.not_mem_nil (show t ∈ [] from h)).elim
  | x :: xs, t, h => by
    have h : t ∈ x.shown :: PyData.shownAll xs := h
    rcases List.mem_cons.mp h with e | e
    · exact ⟨x, List.mem_cons_self, e⟩
    · obtain ⟨d, hd, e⟩ := shownAll_mem e
      exact ⟨d, List.mem_cons_of_mem _ hd, e⟩
theorem int_small {i : Int} (h : i.natAbs < 10 ^ 11) : (PyData.int i).shown.length ≤ 12 := text_small h
theorem ints_shown {ns : List Int} (h : ∀ i ∈ ns, i.natAbs < 10 ^ 11) : (intsD ns).shown.length ≤ 14 * ns.length + 2 ∧ ∀ c ∈ (intsD ns).shown.cps.toList, c < 128 := by
  constructor
  · refine Nat.le_trans (list_len _) (Nat.add_le_add_right ?_ 2)
    induction ns with
    | nil => exact Nat.le_refl _
    | cons r rs ih =>
      have := ih fun x hx => h x (List.mem_cons_of_mem _ hx)
      have := int_small (h r List.mem_cons_self)
      show piled ((PyData.int r).shown :: PyData.shownAll (rs.map PyData.int)) ≤ _
      rw [piled_cons, List.length_cons]
      omega
  · refine list_asc fun t ht => ?_
    obtain ⟨d, hd, rfl⟩ := shownAll_mem ht
    obtain ⟨r, hr, rfl⟩ := List.mem_map.mp hd
    exact text_ascii r
/-- what repr and the looks ask of a thing -/
structure FinD (d : PyData) : Prop where
  fi : fineAll.fine d
  de : d.depth ≤ 60
  co : costAll.cost d ≤ 16777216
  wi : widAll.wid d ≤ 4000
theorem Bd.fin {n m C D W : Nat} {d : PyData} (h : Bd n m C D W d) (h1 : m ≤ 10 ^ 12) (h2 : C ≤ 16777216) (h3 : D ≤ 60) (h4 : W ≤ 4000) : FinD d := ⟨gd_fineW h1 _ h.t.g, Nat.le_trans h.t.d h3, Nat.le_trans h.t.c h2, Nat.le_trans h.t.w h4⟩
abbrev s__law_odd : Stmt := topS 25
def n__law_odd : List Str := ["_law_state", "_law_good", "_law_some"]
theorem sc__law_odd : FnScope n__law_odd ["_law_state", "_law_good"] (defScope s__law_odd) := ⟨rfl, rfl, rfl, by decide +kernel, rfl, by decide +kernel, by decide +kernel⟩
def spOdd (K : PySem.W.Frag) : Sp := fun vs H Q _ => ∃ (b R : Addr) (cnt : Nat) (zs : List V) (ds : List PyData), vs = [.ref b, .ref R] ∧ Bq H b cnt ∧ cnt < 2 ^ 38 ∧ off H [b] R = some (.lst zs) ∧ DpAll K (off H [b]) zs ds ∧ Bds 12 (10 ^ 11) 4000000 2 400 ds ∧ ds.length ≤ 400 ∧ (PyData.list ds).shown.length ≤ 20000 ∧ (∀ c ∈ (PyData.list ds).shown.cps.toList, c < 128) ∧
  ∀ (H' : Hp) (v : V) (d : PyData), Bq H' b (cnt + 1) → Sm [b] H H' → Dp K (off H' [b]) v d → FinD d → Q v H'
set_option maxHeartbeats 4000000 in
theorem ok_odd {f : Addr} {fd : FuncData} {k : Nat} (F : Fun K "_law_odd" "_law_odd" s__law_odd f fd) (T : Txt mg) (c__law_take : Cl P w K mg base (k + 1) "_law_take" spTake) : FnG P w K mg base (k + 2) f fd ["_law_state", "_law_good"] (spOdd K) := by
  refine okG F sc__law_odd (fun vs H Q E h => ?_) (fun cdv A outer s H vs Q gd hr h => ?_)
  · obtain ⟨b, R, cnt, zs, ds, rfl, _⟩ := h
    rfl
  · obtain ⟨b, R, cnt, zs, ds, rfl, B, hn, fR, daz, bs, l4, sl, sa, q⟩ := h
    have nd := sc__law_odd.nd
    have hu64 := hr.units
    refine ⟨_, (pss_cons (ps_set (i := 2) nd rfl (.inl rfl) (pe_lst (pa_cons pe_non (pa_cons pe_int (pa_cons pe_str (pa_cons pe_str (pa_cons pe_bl (pa_cons (pe_tup pa_nil) (pa_cons (pe_lst (pa_cons (pe_lst pa_nil) pa_nil)) (pa_cons (pe_lst (pa_cons (pe_tup pa_nil) pa_nil)) (pa_cons (pe_callTy (kc_tuple (K := K)) (by rfl) T.tuple (by decide +kernel) (pa_cons (pv 1) pa_nil)) (pa_cons (pe_lst (pa_cons (pv 1) pa_nil)) (pa_cons (pe_callTy (kc_strA (K := K) gd hu64) (by rfl) T.str (by decide +kernel) (pa_cons (pv 1) pa_nil)) (pa_cons (pe_lst (pa_cons pe_non pa_nil)) (pa_cons (pe_lst (pa_cons (pe_lst (pa_cons (pe_lst (pa_cons (pe_lst (pa_cons (pe_lst (pa_cons (pe_lst (pa_cons (pe_lst pa_nil) pa_nil)) pa_nil)) pa_nil)) pa_nil)) pa_nil)) pa_nil)) pa_nil)))))))))))))))
      (pss_one (ps_ret (pe_ix (kx_list (K := K)) (pe_op op_cat (pv 2) (pe_lst (pa_cons (pe_tup (pa_cons (pv 1) (pa_cons (pe_lst pa_nil) pa_nil))) pa_nil))) (pe_cl c__law_take hr (by omega) (by rfl) (pa_cons (pv 0) (pa_cons pe_int pa_nil))) (fun _ _ => rfl))))), ?_⟩
    obtain ⟨S, eS⟩ : ∃ S, S = [b] := ⟨_, rfl⟩
    have hb : b ∈ S := by rw [eS]; exact List.mem_cons_self
    have lv : Live S H := by rw [eS]; exact Live.q B
    have sc : Sm [b] H H := Same.refl _
    rw [← eS] at fR daz
    have lz : zs.length = ds.length := dpAll_len daz
    have z0 : ∀ n : Nat, 0 ≤ n := Nat.zero_le
    have z1 : 1 ≤ sizeLine := by decide
    refine ⟨z0 _, fun p1 n1 => ?_⟩
    have f1 := off_new (o := .tup []) lv n1
    have lv := lv.put (o := .tup []) n1
    have B := B.put (o := .tup []) n1
    have sc := sc.trans (sm_put (S := [b]) (o := .tup []) n1)
    have fR := (sm_put (S := S) (o := .tup []) n1) _ _ fR
    have daz := dpAll_same ((sm_put (S := S) (o := .tup []) n1)) daz
    generalize upd H p1 (.tup []) = H1 at f1 lv B sc fR daz ⊢
    refine ⟨z0 _, fun p2 n2 => ?_⟩
    have f2 := off_new (o := .lst []) lv n2
    have lv := lv.put (o := .lst []) n2
    have B := B.put (o := .lst []) n2
    have sc := sc.trans (sm_put (S := [b]) (o := .lst []) n2)
    have fR := (sm_put (S := S) (o := .lst []) n2) _ _ fR
    have f1 := (sm_put (S := S) (o := .lst []) n2) _ _ f1
    have daz := dpAll_same ((sm_put (S := S) (o := .lst []) n2)) daz
    generalize upd H1 p2 (.lst []) = H2 at f2 lv B sc fR f1 daz ⊢
    refine ⟨z1, fun p3 n3 => ?_⟩
    have f3 := off_new (o := .lst [.ref p2]) lv n3
    have lv := lv.put (o := .lst [.ref p2]) n3
    have B := B.put (o := .lst [.ref p2]) n3
    have sc := sc.trans (sm_put (S := [b]) (o := .lst [.ref p2]) n3)
    have fR := (sm_put (S := S) (o := .lst [.ref p2]) n3) _ _ fR
    have f1 := (sm_put (S := S) (o := .lst [.ref p2]) n3) _ _ f1
    have f2 := (sm_put (S := S) (o := .lst [.ref p2]) n3) _ _ f2
    have daz := dpAll_same ((sm_put (S := S) (o := .lst [.ref p2]) n3)) daz
    generalize upd H2 p3 (.lst [.ref p2]) = H3 at f3 lv B sc fR f1 f2 daz ⊢
    refine ⟨z0 _, fun p4 n4 => ?_⟩
    have f4 := off_new (o := .tup []) lv n4
    have lv := lv.put (o := .tup []) n4
    have B := B.put (o := .tup []) n4
    have sc := sc.trans (sm_put (S := [b]) (o := .tup []) n4)
    have fR := (sm_put (S := S) (o := .tup []) n4) _ _ fR
    have f1 := (sm_put (S := S) (o := .tup []) n4) _ _ f1
    have f2 := (sm_put (S := S) (o := .tup []) n4) _ _ f2
    have f3 := (sm_put (S := S) (o := .tup []) n4) _ _ f3
    have daz := dpAll_same ((sm_put (S := S) (o := .tup []) n4)) daz
    generalize upd H3 p4 (.tup []) = H4 at f4 lv B sc fR f1 f2 f3 daz ⊢
    refine ⟨z1, fun p5 n5 => ?_⟩
    have f5 := off_new (o := .lst [.ref p4]) lv n5
    have lv := lv.put (o := .lst [.ref p4]) n5
    have B := B.put (o := .lst [.ref p4]) n5
    have sc := sc.trans (sm_put (S := [b]) (o := .lst [.ref p4]) n5)
    have fR := (sm_put (S := S) (o := .lst [.ref p4]) n5) _ _ fR
    have f1 := (sm_put (S := S) (o := .lst [.ref p4]) n5) _ _ f1
    have f2 := (sm_put (S := S) (o := .lst [.ref p4]) n5) _ _ f2
    have f3 := (sm_put (S := S) (o := .lst [.ref p4]) n5) _ _ f3
    have f4 := (sm_put (S := S) (o := .lst [.ref p4]) n5) _ _ f4
    have daz := dpAll_same ((sm_put (S := S) (o := .lst [.ref p4]) n5)) daz
    generalize upd H4 p5 (.lst [.ref p4]) = H5 at f5 lv B sc fR f1 f2 f3 f4 daz ⊢
    refine ⟨_, rfl, R, zs, rfl, .inl ⟨SqL.of (at_off fR), fun p6 n6 => ?_⟩⟩
    have f6 := off_new (o := .tup zs) lv n6
    have lv := lv.put (o := .tup zs) n6
    have B := B.put (o := .tup zs) n6
    have sc := sc.trans (sm_put (S := [b]) (o := .tup zs) n6)
    have fR := (sm_put (S := S) (o := .tup zs) n6) _ _ fR
    have f1 := (sm_put (S := S) (o := .tup zs) n6) _ _ f1
    have f2 := (sm_put (S := S) (o := .tup zs) n6) _ _ f2
    have f3 := (sm_put (S := S) (o := .tup zs) n6) _ _ f3
    have f4 := (sm_put (S := S) (o := .tup zs) n6) _ _ f4
    have f5 := (sm_put (S := S) (o := .tup zs) n6) _ _ f5
    have daz := dpAll_same ((sm_put (S := S) (o := .tup zs) n6)) daz
    generalize upd H5 p6 (.tup zs) = H6 at f6 lv B sc fR f1 f2 f3 f4 f5 daz ⊢
    refine ⟨_, rfl, z1, fun p7 n7 => ?_⟩
    have f7 := off_new (o := .lst [.ref R]) lv n7
    have lv := lv.put (o := .lst [.ref R]) n7
    have B := B.put (o := .lst [.ref R]) n7
    have sc := sc.trans (sm_put (S := [b]) (o := .lst [.ref R]) n7)
    have fR := (sm_put (S := S) (o := .lst [.ref R]) n7) _ _ fR
    have f1 := (sm_put (S := S) (o := .lst [.ref R]) n7) _ _ f1
    have f2 := (sm_put (S := S) (o := .lst [.ref R]) n7) _ _ f2
    have f3 := (sm_put (S := S) (o := .lst [.ref R]) n7) _ _ f3
    have f4 := (sm_put (S := S) (o := .lst [.ref R]) n7) _ _ f4
    have f5 := (sm_put (S := S) (o := .lst [.ref R]) n7) _ _ f5
    have f6 := (sm_put (S := S) (o := .lst [.ref R]) n7) _ _ f6
    have daz := dpAll_same ((sm_put (S := S) (o := .lst [.ref R]) n7)) daz
    generalize upd H6 p7 (.lst [.ref R]) = H7 at f7 lv B sc fR f1 f2 f3 f4 f5 f6 daz ⊢
    have bl : Bd 12 (10 ^ 11) 4000003 3 400 (.list ds) := bs.list l4
    refine ⟨_, rfl, R, .list ds, rfl, .lst (SqL.of (at_off fR)) (dpAll_same off_sub daz), gd_fineW (by decide) _ bl.t.g, Nat.le_trans bl.t.d (by decide), Nat.le_trans bl.t.c (by decide), ?_⟩
    refine ⟨z1, fun p8 n8 => ?_⟩
    have f8 := off_new (o := .lst [.non]) lv n8
    have lv := lv.put (o := .lst [.non]) n8
    have B := B.put (o := .lst [.non]) n8
    have sc := sc.trans (sm_put (S := [b]) (o := .lst [.non]) n8)
    have fR := (sm_put (S := S) (o := .lst [.non]) n8) _ _ fR
    have f1 := (sm_put (S := S) (o := .lst [.non]) n8) _ _ f1
    have f2 := (sm_put (S := S) (o := .lst [.non]) n8) _ _ f2
    have f3 := (sm_put (S := S) (o := .lst [.non]) n8) _ _ f3
    have f4 := (sm_put (S := S) (o := .lst [.non]) n8) _ _ f4
    have f5 := (sm_put (S := S) (o := .lst [.non]) n8) _ _ f5
    have f6 := (sm_put (S := S) (o := .lst [.non]) n8) _ _ f6
    have f7 := (sm_put (S := S) (o := .lst [.non]) n8) _ _ f7
    have daz := dpAll_same ((sm_put (S := S) (o := .lst [.non]) n8)) daz
    generalize upd H7 p8 (.lst [.non]) = H8 at f8 lv B sc fR f1 f2 f3 f4 f5 f6 f7 daz ⊢
    refine ⟨z0 _, fun q0 m0 => ?_⟩
    have g0 := off_new (o := .lst []) lv m0
    have lv := lv.put (o := .lst []) m0
    have B := B.put (o := .lst []) m0
    have sc := sc.trans (sm_put (S := [b]) (o := .lst []) m0)
    have fR := (sm_put (S := S) (o := .lst []) m0) _ _ fR
    have f1 := (sm_put (S := S) (o := .lst []) m0) _ _ f1
    have f2 := (sm_put (S := S) (o := .lst []) m0) _ _ f2
    have f3 := (sm_put (S := S) (o := .lst []) m0) _ _ f3
    have f4 := (sm_put (S := S) (o := .lst []) m0) _ _ f4
    have f5 := (sm_put (S := S) (o := .lst []) m0) _ _ f5
    have f6 := (sm_put (S := S) (o := .lst []) m0) _ _ f6
    have f7 := (sm_put (S := S) (o := .lst []) m0) _ _ f7
    have f8 := (sm_put (S := S) (o := .lst []) m0) _ _ f8
    have daz := dpAll_same ((sm_put (S := S) (o := .lst []) m0)) daz
    generalize upd H8 q0 (.lst []) = H9 at g0 lv B sc fR f1 f2 f3 f4 f5 f6 f7 f8 daz ⊢
    refine ⟨z1, fun q1 m1 => ?_⟩
    have g1 := off_new (o := .lst [.ref q0]) lv m1
    have lv := lv.put (o := .lst [.ref q0]) m1
    have B := B.put (o := .lst [.ref q0]) m1
    have sc := sc.trans (sm_put (S := [b]) (o := .lst [.ref q0]) m1)
    have fR := (sm_put (S := S) (o := .lst [.ref q0]) m1) _ _ fR
    have f1 := (sm_put (S := S) (o := .lst [.ref q0]) m1) _ _ f1
    have f2 := (sm_put (S := S) (o := .lst [.ref q0]) m1) _ _ f2
    have f3 := (sm_put (S := S) (o := .lst [.ref q0]) m1) _ _ f3
    have f4 := (sm_put (S := S) (o := .lst [.ref q0]) m1) _ _ f4
    have f5 := (sm_put (S := S) (o := .lst [.ref q0]) m1) _ _ f5
    have f6 := (sm_put (S := S) (o := .lst [.ref q0]) m1) _ _ f6
    have f7 := (sm_put (S := S) (o := .lst [.ref q0]) m1) _ _ f7
    have f8 := (sm_put (S := S) (o := .lst [.ref q0]) m1) _ _ f8
    have g0 := (sm_put (S := S) (o := .lst [.ref q0]) m1) _ _ g0
    have daz := dpAll_same ((sm_put (S := S) (o := .lst [.ref q0]) m1)) daz
    generalize upd H9 q1 (.lst [.ref q0]) = X1 at g1 lv B sc fR f1 f2 f3 f4 f5 f6 f7 f8 g0 daz ⊢
    refine ⟨z1, fun q2 m2 => ?_⟩
    have g2 := off_new (o := .lst [.ref q1]) lv m2
    have lv := lv.put (o := .lst [.ref q1]) m2
    have B := B.put (o := .lst [.ref q1]) m2
    have sc := sc.trans (sm_put (S := [b]) (o := .lst [.ref q1]) m2)
    have fR := (sm_put (S := S) (o := .lst [.ref q1]) m2) _ _ fR
    have f1 := (sm_put (S := S) (o := .lst [.ref q1]) m2) _ _ f1
    have f2 := (sm_put (S := S) (o := .lst [.ref q1]) m2) _ _ f2
    have f3 := (sm_put (S := S) (o := .lst [.ref q1]) m2) _ _ f3
    have f4 := (sm_put (S := S) (o := .lst [.ref q1]) m2) _ _ f4
    have f5 := (sm_put (S := S) (o := .lst [.ref q1]) m2) _ _ f5
    have f6 := (sm_put (S := S) (o := .lst [.ref q1]) m2) _ _ f6
    have f7 := (sm_put (S := S) (o := .lst [.ref q1]) m2) _ _ f7
    have f8 := (sm_put (S := S) (o := .lst [.ref q1]) m2) _ _ f8
    have g0 := (sm_put (S := S) (o := .lst [.ref q1]) m2) _ _ g0
    have g1 := (sm_put (S := S) (o := .lst [.ref q1]) m2) _ _ g1
    have daz := dpAll_same ((sm_put (S := S) (o := .lst [.ref q1]) m2)) daz
    generalize upd X1 q2 (.lst [.ref q1]) = X2 at g2 lv B sc fR f1 f2 f3 f4 f5 f6 f7 f8 g0 g1 daz ⊢
    refine ⟨z1, fun q3 m3 => ?_⟩
    have g3 := off_new (o := .lst [.ref q2]) lv m3
    have lv := lv.put (o := .lst [.ref q2]) m3
    have B := B.put (o := .lst [.ref q2]) m3
    have sc := sc.trans (sm_put (S := [b]) (o := .lst [.ref q2]) m3)
    have fR := (sm_put (S := S) (o := .lst [.ref q2]) m3) _ _ fR
    have f1 := (sm_put (S := S) (o := .lst [.ref q2]) m3) _ _ f1
    have f2 := (sm_put (S := S) (o := .lst [.ref q2]) m3) _ _ f2
    have f3 := (sm_put (S := S) (o := .lst [.ref q2]) m3) _ _ f3
    have f4 := (sm_put (S := S) (o := .lst [.ref q2]) m3) _ _ f4
    have f5 := (sm_put (S := S) (o := .lst [.ref q2]) m3) _ _ f5
    have f6 := (sm_put (S := S) (o := .lst [.ref q2]) m3) _ _ f6
    have f7 := (sm_put (S := S) (o := .lst [.ref q2]) m3) _ _ f7
    have f8 := (sm_put (S := S) (o := .lst [.ref q2]) m3) _ _ f8
    have g0 := (sm_put (S := S) (o := .lst [.ref q2]) m3) _ _ g0
    have g1 := (sm_put (S := S) (o := .lst [.ref q2]) m3) _ _ g1
    have g2 := (sm_put (S := S) (o := .lst [.ref q2]) m3) _ _ g2
    have daz := dpAll_same ((sm_put (S := S) (o := .lst [.ref q2]) m3)) daz
    generalize upd X2 q3 (.lst [.ref q2]) = X3 at g3 lv B sc fR f1 f2 f3 f4 f5 f6 f7 f8 g0 g1 g2 daz ⊢
    refine ⟨z1, fun q4 m4 => ?_⟩
    have g4 := off_new (o := .lst [.ref q3]) lv m4
    have lv := lv.put (o := .lst [.ref q3]) m4
    have B := B.put (o := .lst [.ref q3]) m4
    have sc := sc.trans (sm_put (S := [b]) (o := .lst [.ref q3]) m4)
    have fR := (sm_put (S := S) (o := .lst [.ref q3]) m4) _ _ fR
    have f1 := (sm_put (S := S) (o := .lst [.ref q3]) m4) _ _ f1
    have f2 := (sm_put (S := S) (o := .lst [.ref q3]) m4) _ _ f2
    have f3 := (sm_put (S := S) (o := .lst [.ref q3]) m4) _ _ f3
    have f4 := (sm_put (S := S) (o := .lst [.ref q3]) m4) _ _ f4
    have f5 := (sm_put (S := S) (o := .lst [.ref q3]) m4) _ _ f5
    have f6 := (sm_put (S := S) (o := .lst [.ref q3]) m4) _ _ f6
    have f7 := (sm_put (S := S) (o := .lst [.ref q3]) m4) _ _ f7
    have f8 := (sm_put (S := S) (o := .lst [.ref q3]) m4) _ _ f8
    have g0 := (sm_put (S := S) (o := .lst [.ref q3]) m4) _ _ g0
    have g1 := (sm_put (S := S) (o := .lst [.ref q3]) m4) _ _ g1
    have g2 := (sm_put (S := S) (o := .lst [.ref q3]) m4) _ _ g2
    have g3 := (sm_put (S := S) (o := .lst [.ref q3]) m4) _ _ g3
    have daz := dpAll_same ((sm_put (S := S) (o := .lst [.ref q3]) m4)) daz
    generalize upd X3 q4 (.lst [.ref q3]) = X4 at g4 lv B sc fR f1 f2 f3 f4 f5 f6 f7 f8 g0 g1 g2 g3 daz ⊢
    refine ⟨z1, fun q5 m5 => ?_⟩
    have g5 := off_new (o := .lst [.ref q4]) lv m5
    have lv := lv.put (o := .lst [.ref q4]) m5
    have B := B.put (o := .lst [.ref q4]) m5
    have sc := sc.trans (sm_put (S := [b]) (o := .lst [.ref q4]) m5)
    have fR := (sm_put (S := S) (o := .lst [.ref q4]) m5) _ _ fR
    have f1 := (sm_put (S := S) (o := .lst [.ref q4]) m5) _ _ f1
    have f2 := (sm_put (S := S) (o := .lst [.ref q4]) m5) _ _ f2
    have f3 := (sm_put (S := S) (o := .lst [.ref q4]) m5) _ _ f3
    have f4 := (sm_put (S := S) (o := .lst [.ref q4]) m5) _ _ f4
    have f5 := (sm_put (S := S) (o := .lst [.ref q4]) m5) _ _ f5
    have f6 := (sm_put (S := S) (o := .lst [.ref q4]) m5) _ _ f6
    have f7 := (sm_put (S := S) (o := .lst [.ref q4]) m5) _ _ f7
    have f8 := (sm_put (S := S) (o := .lst [.ref q4]) m5) _ _ f8
    have g0 := (sm_put (S := S) (o := .lst [.ref q4]) m5) _ _ g0
    have g1 := (sm_put (S := S) (o := .lst [.ref q4]) m5) _ _ g1
    have g2 := (sm_put (S := S) (o := .lst [.ref q4]) m5) _ _ g2
    have g3 := (sm_put (S := S) (o := .lst [.ref q4]) m5) _ _ g3
    have g4 := (sm_put (S := S) (o := .lst [.ref q4]) m5) _ _ g4
    have daz := dpAll_same ((sm_put (S := S) (o := .lst [.ref q4]) m5)) daz
    generalize upd X4 q5 (.lst [.ref q4]) = X5 at g5 lv B sc fR f1 f2 f3 f4 f5 f6 f7 f8 g0 g1 g2 g3 g4 daz ⊢
    refine ⟨z1, fun q6 m6 => ?_⟩
    have g6 := off_new (o := .lst [.ref q5]) lv m6
    have lv := lv.put (o := .lst [.ref q5]) m6
    have B := B.put (o := .lst [.ref q5]) m6
    have sc := sc.trans (sm_put (S := [b]) (o := .lst [.ref q5]) m6)
    have fR := (sm_put (S := S) (o := .lst [.ref q5]) m6) _ _ fR
    have f1 := (sm_put (S := S) (o := .lst [.ref q5]) m6) _ _ f1
    have f2 := (sm_put (S := S) (o := .lst [.ref q5]) m6) _ _ f2
    have f3 := (sm_put (S := S) (o := .lst [.ref q5]) m6) _ _ f3
    have f4 := (sm_put (S := S) (o := .lst [.ref q5]) m6) _ _ f4
    have f5 := (sm_put (S := S) (o := .lst [.ref q5]) m6) _ _ f5
    have f6 := (sm_put (S := S) (o := .lst [.ref q5]) m6) _ _ f6
    have f7 := (sm_put (S := S) (o := .lst [.ref q5]) m6) _ _ f7
    have f8 := (sm_put (S := S) (o := .lst [.ref q5]) m6) _ _ f8
    have g0 := (sm_put (S := S) (o := .lst [.ref q5]) m6) _ _ g0
    have g1 := (sm_put (S := S) (o := .lst [.ref q5]) m6) _ _ g1
    have g2 := (sm_put (S := S) (o := .lst [.ref q5]) m6) _ _ g2
    have g3 := (sm_put (S := S) (o := .lst [.ref q5]) m6) _ _ g3
    have g4 := (sm_put (S := S) (o := .lst [.ref q5]) m6) _ _ g4
    have g5 := (sm_put (S := S) (o := .lst [.ref q5]) m6) _ _ g5
    have daz := dpAll_same ((sm_put (S := S) (o := .lst [.ref q5]) m6)) daz
    generalize upd X5 q6 (.lst [.ref q5]) = X6 at g6 lv B sc fR f1 f2 f3 f4 f5 f6 f7 f8 g0 g1 g2 g3 g4 g5 daz ⊢
    obtain ⟨L, eL⟩ : ∃ L : List V, L = [.non, .int 0, .str "", .str "hours", .bl true, .ref p1, .ref p3, .ref p5, .ref p6, .ref p7, .str (PyData.list ds).shown, .ref p8, .ref q6] := ⟨_, rfl⟩
    refine ⟨(by show 13 ≤ sizeLine; decide), fun p9 n9 => ?_⟩
    dsimp only
    rw [← eL]
    have f9 := off_new (o := .lst L) lv n9
    have lv := lv.put (o := .lst L) n9
    have B := B.put (o := .lst L) n9
    have sc := sc.trans (sm_put (S := [b]) (o := .lst L) n9)
    have fR := (sm_put (S := S) (o := .lst L) n9) _ _ fR
    have f1 := (sm_put (S := S) (o := .lst L) n9) _ _ f1
    have f2 := (sm_put (S := S) (o := .lst L) n9) _ _ f2
    have f3 := (sm_put (S := S) (o := .lst L) n9) _ _ f3
    have f4 := (sm_put (S := S) (o := .lst L) n9) _ _ f4
    have f5 := (sm_put (S := S) (o := .lst L) n9) _ _ f5
    have f6 := (sm_put (S := S) (o := .lst L) n9) _ _ f6
    have f7 := (sm_put (S := S) (o := .lst L) n9) _ _ f7
    have f8 := (sm_put (S := S) (o := .lst L) n9) _ _ f8
    have g0 := (sm_put (S := S) (o := .lst L) n9) _ _ g0
    have g1 := (sm_put (S := S) (o := .lst L) n9) _ _ g1
    have g2 := (sm_put (S := S) (o := .lst L) n9) _ _ g2
    have g3 := (sm_put (S := S) (o := .lst L) n9) _ _ g3
    have g4 := (sm_put (S := S) (o := .lst L) n9) _ _ g4
    have g5 := (sm_put (S := S) (o := .lst L) n9) _ _ g5
    have g6 := (sm_put (S := S) (o := .lst L) n9) _ _ g6
    have daz := dpAll_same ((sm_put (S := S) (o := .lst L) n9)) daz
    generalize upd X6 p9 (.lst L) = X7 at f9 lv B sc fR f1 f2 f3 f4 f5 f6 f7 f8 g0 g1 g2 g3 g4 g5 g6 daz ⊢
    unfold gName
    refine ⟨_, rfl, _, rfl, z0 _, fun r0 k0 => ?_⟩
    have h0 := off_new (o := .lst []) lv k0
    have lv := lv.put (o := .lst []) k0
    have B := B.put (o := .lst []) k0
    have sc := sc.trans (sm_put (S := [b]) (o := .lst []) k0)
    have fR := (sm_put (S := S) (o := .lst []) k0) _ _ fR
    have f1 := (sm_put (S := S) (o := .lst []) k0) _ _ f1
    have f2 := (sm_put (S := S) (o := .lst []) k0) _ _ f2
    have f3 := (sm_put (S := S) (o := .lst []) k0) _ _ f3
    have f4 := (sm_put (S := S) (o := .lst []) k0) _ _ f4
    have f5 := (sm_put (S := S) (o := .lst []) k0) _ _ f5
    have f6 := (sm_put (S := S) (o := .lst []) k0) _ _ f6
    have f7 := (sm_put (S := S) (o := .lst []) k0) _ _ f7
    have f8 := (sm_put (S := S) (o := .lst []) k0) _ _ f8
    have f9 := (sm_put (S := S) (o := .lst []) k0) _ _ f9
    have g0 := (sm_put (S := S) (o := .lst []) k0) _ _ g0
    have g1 := (sm_put (S := S) (o := .lst []) k0) _ _ g1
    have g2 := (sm_put (S := S) (o := .lst []) k0) _ _ g2
    have g3 := (sm_put (S := S) (o := .lst []) k0) _ _ g3
    have g4 := (sm_put (S := S) (o := .lst []) k0) _ _ g4
    have g5 := (sm_put (S := S) (o := .lst []) k0) _ _ g5
    have g6 := (sm_put (S := S) (o := .lst []) k0) _ _ g6
    have daz := dpAll_same ((sm_put (S := S) (o := .lst []) k0)) daz
    generalize upd X7 r0 (.lst []) = Y8 at h0 lv B sc fR f1 f2 f3 f4 f5 f6 f7 f8 f9 g0 g1 g2 g3 g4 g5 g6 daz ⊢
    refine ⟨(by show 2 ≤ sizeLine; decide), fun r1 k1 => ?_⟩
    have h1 := off_new (o := .tup [.ref R, .ref r0]) lv k1
    have lv := lv.put (o := .tup [.ref R, .ref r0]) k1
    have B := B.put (o := .tup [.ref R, .ref r0]) k1
    have sc := sc.trans (sm_put (S := [b]) (o := .tup [.ref R, .ref r0]) k1)
    have fR := (sm_put (S := S) (o := .tup [.ref R, .ref r0]) k1) _ _ fR
    have f1 := (sm_put (S := S) (o := .tup [.ref R, .ref r0]) k1) _ _ f1
    have f2 := (sm_put (S := S) (o := .tup [.ref R, .ref r0]) k1) _ _ f2
    have f3 := (sm_put (S := S) (o := .tup [.ref R, .ref r0]) k1) _ _ f3
    have f4 := (sm_put (S := S) (o := .tup [.ref R, .ref r0]) k1) _ _ f4
    have f5 := (sm_put (S := S) (o := .tup [.ref R, .ref r0]) k1) _ _ f5
    have f6 := (sm_put (S := S) (o := .tup [.ref R, .ref r0]) k1) _ _ f6
    have f7 := (sm_put (S := S) (o := .tup [.ref R, .ref r0]) k1) _ _ f7
    have f8 := (sm_put (S := S) (o := .tup [.ref R, .ref r0]) k1) _ _ f8
    have f9 := (sm_put (S := S) (o := .tup [.ref R, .ref r0]) k1) _ _ f9
    have g0 := (sm_put (S := S) (o := .tup [.ref R, .ref r0]) k1) _ _ g0
    have g1 := (sm_put (S := S) (o := .tup [.ref R, .ref r0]) k1) _ _ g1
    have g2 := (sm_put (S := S) (o := .tup [.ref R, .ref r0]) k1) _ _ g2
    have g3 := (sm_put (S := S) (o := .tup [.ref R, .ref r0]) k1) _ _ g3
    have g4 := (sm_put (S := S) (o := .tup [.ref R, .ref r0]) k1) _ _ g4
    have g5 := (sm_put (S := S) (o := .tup [.ref R, .ref r0]) k1) _ _ g5
    have g6 := (sm_put (S := S) (o := .tup [.ref R, .ref r0]) k1) _ _ g6
    have h0 := (sm_put (S := S) (o := .tup [.ref R, .ref r0]) k1) _ _ h0
    have daz := dpAll_same ((sm_put (S := S) (o := .tup [.ref R, .ref r0]) k1)) daz
    generalize upd Y8 r1 (.tup [.ref R, .ref r0]) = X8 at h1 lv B sc fR f1 f2 f3 f4 f5 f6 f7 f8 f9 g0 g1 g2 g3 g4 g5 g6 h0 daz ⊢
    refine ⟨z1, fun r2 k2 => ?_⟩
    have h2 := off_new (o := .lst [.ref r1]) lv k2
    have lv := lv.put (o := .lst [.ref r1]) k2
    have B := B.put (o := .lst [.ref r1]) k2
    have sc := sc.trans (sm_put (S := [b]) (o := .lst [.ref r1]) k2)
    have fR := (sm_put (S := S) (o := .lst [.ref r1]) k2) _ _ fR
    have f1 := (sm_put (S := S) (o := .lst [.ref r1]) k2) _ _ f1
    have f2 := (sm_put (S := S) (o := .lst [.ref r1]) k2) _ _ f2
    have f3 := (sm_put (S := S) (o := .lst [.ref r1]) k2) _ _ f3
    have f4 := (sm_put (S := S) (o := .lst [.ref r1]) k2) _ _ f4
    have f5 := (sm_put (S := S) (o := .lst [.ref r1]) k2) _ _ f5
    have f6 := (sm_put (S := S) (o := .lst [.ref r1]) k2) _ _ f6
    have f7 := (sm_put (S := S) (o := .lst [.ref r1]) k2) _ _ f7
    have f8 := (sm_put (S := S) (o := .lst [.ref r1]) k2) _ _ f8
    have f9 := (sm_put (S := S) (o := .lst [.ref r1]) k2) _ _ f9
    have g0 := (sm_put (S := S) (o := .lst [.ref r1]) k2) _ _ g0
    have g1 := (sm_put (S := S) (o := .lst [.ref r1]) k2) _ _ g1
    have g2 := (sm_put (S := S) (o := .lst [.ref r1]) k2) _ _ g2
    have g3 := (sm_put (S := S) (o := .lst [.ref r1]) k2) _ _ g3
    have g4 := (sm_put (S := S) (o := .lst [.ref r1]) k2) _ _ g4
    have g5 := (sm_put (S := S) (o := .lst [.ref r1]) k2) _ _ g5
    have g6 := (sm_put (S := S) (o := .lst [.ref r1]) k2) _ _ g6
    have h0 := (sm_put (S := S) (o := .lst [.ref r1]) k2) _ _ h0
    have h1 := (sm_put (S := S) (o := .lst [.ref r1]) k2) _ _ h1
    have daz := dpAll_same ((sm_put (S := S) (o := .lst [.ref r1]) k2)) daz
    generalize upd X8 r2 (.lst [.ref r1]) = X9 at h2 lv B sc fR f1 f2 f3 f4 f5 f6 f7 f8 f9 g0 g1 g2 g3 g4 g5 g6 h0 h1 daz ⊢
    refine ⟨p9, r2, _, _, rfl, rfl, at_off f9, at_off h2, (by rw [eL]; show 14 ≤ sizeLine; decide), fun r3 k3 => ?_⟩
    have h3 := off_new (o := .lst (L ++ [.ref r1])) lv k3
    have lv := lv.put (o := .lst (L ++ [.ref r1])) k3
    have B := B.put (o := .lst (L ++ [.ref r1])) k3
    have sc := sc.trans (sm_put (S := [b]) (o := .lst (L ++ [.ref r1])) k3)
    have fR := (sm_put (S := S) (o := .lst (L ++ [.ref r1])) k3) _ _ fR
    have f1 := (sm_put (S := S) (o := .lst (L ++ [.ref r1])) k3) _ _ f1
    have f2 := (sm_put (S := S) (o := .lst (L ++ [.ref r1])) k3) _ _ f2
    have f3 := (sm_put (S := S) (o := .lst (L ++ [.ref r1])) k3) _ _ f3
    have f4 := (sm_put (S := S) (o := .lst (L ++ [.ref r1])) k3) _ _ f4
    have f5 := (sm_put (S := S) (o := .lst (L ++ [.ref r1])) k3) _ _ f5
    have f6 := (sm_put (S := S) (o := .lst (L ++ [.ref r1])) k3) _ _ f6
    have f7 := (sm_put (S := S) (o := .lst (L ++ [.ref r1])) k3) _ _ f7
    have f8 := (sm_put (S := S) (o := .lst (L ++ [.ref r1])) k3) _ _ f8
    have g0 := (sm_put (S := S) (o := .lst (L ++ [.ref r1])) k3) _ _ g0
    have g1 := (sm_put (S := S) (o := .lst (L ++ [.ref r1])) k3) _ _ g1
    have g2 := (sm_put (S := S) (o := .lst (L ++ [.ref r1])) k3) _ _ g2
    have g3 := (sm_put (S := S) (o := .lst (L ++ [.ref r1])) k3) _ _ g3
    have g4 := (sm_put (S := S) (o := .lst (L ++ [.ref r1])) k3) _ _ g4
    have g5 := (sm_put (S := S) (o := .lst (L ++ [.ref r1])) k3) _ _ g5
    have g6 := (sm_put (S := S) (o := .lst (L ++ [.ref r1])) k3) _ _ g6
    have h0 := (sm_put (S := S) (o := .lst (L ++ [.ref r1])) k3) _ _ h0
    have h1 := (sm_put (S := S) (o := .lst (L ++ [.ref r1])) k3) _ _ h1
    have daz := dpAll_same ((sm_put (S := S) (o := .lst (L ++ [.ref r1])) k3)) daz
    generalize upd X9 r3 (.lst (L ++ [.ref r1])) = Y at h3 lv B sc fR f1 f2 f3 f4 f5 f6 f7 f8 g0 g1 g2 g3 g4 g5 g6 h0 h1 daz ⊢
    refine ⟨_, rfl, b, 14, _, rfl, (by decide), (by decide), B, by omega, fun Z z z0 z1 B4 s4 => ?_⟩
    have lv := lv.box B4.bx s4
    have sc := sc.trans s4
    have B := B4
    have fR := (sm_one hb s4) _ _ fR
    have f1 := (sm_one hb s4) _ _ f1
    have f2 := (sm_one hb s4) _ _ f2
    have f3 := (sm_one hb s4) _ _ f3
    have f4 := (sm_one hb s4) _ _ f4
    have f5 := (sm_one hb s4) _ _ f5
    have f6 := (sm_one hb s4) _ _ f6
    have f7 := (sm_one hb s4) _ _ f7
    have f8 := (sm_one hb s4) _ _ f8
    have g0 := (sm_one hb s4) _ _ g0
    have g1 := (sm_one hb s4) _ _ g1
    have g2 := (sm_one hb s4) _ _ g2
    have g3 := (sm_one hb s4) _ _ g3
    have g4 := (sm_one hb s4) _ _ g4
    have g5 := (sm_one hb s4) _ _ g5
    have g6 := (sm_one hb s4) _ _ g6
    have h0 := (sm_one hb s4) _ _ h0
    have h1 := (sm_one hb s4) _ _ h1
    have h3 := (sm_one hb s4) _ _ h3
    have daz := dpAll_same ((sm_one hb s4)) daz
    have fin : ∀ (v : V) (d : PyData), atI (L ++ [.ref r1]) z = some v → Dp K (off Z S) v d → FinD d → ∃ (q : Addr) (xs : List V) (i : Int) (v : V), V.ref r3 = .ref q ∧ V.int z = .int i ∧ SqL K Z q xs ∧ atI xs i = some v ∧ Q v Z := fun v d ga dp fd => ⟨r3, _, z, v, rfl, rfl, SqL.of (at_off h3), ga, q _ v d B sc (by rw [← eS]; exact dp) fd⟩
    have h14 : z = 0 ∨ z = 1 ∨ z = 2 ∨ z = 3 ∨ z = 4 ∨ z = 5 ∨ z = 6 ∨ z = 7 ∨ z = 8 ∨ z = 9 ∨ z = 10 ∨ z = 11 ∨ z = 12 ∨ z = 13 := by omega
    have fs : ∀ {C D W : Nat} {d : PyData}, Bd 12 (10 ^ 11) C D W d → C ≤ 16777216 → D ≤ 60 → W ≤ 4000 → FinD d := fun h a b c => h.fin (by decide) a b c
    have e0 : ∀ {m C D W : Nat}, 0 + 3 ≤ C → 0 + 1 ≤ D → Bd 12 m C D W (.list []) ∧ Bd 12 m C D W (.tuple []) := fun a b => ⟨((Bds.nil (D := 0) (W := _)).list (Nat.zero_le _)).mono (Nat.le_refl _) (Nat.le_refl _) a b (Nat.le_refl _), ((Bds.nil (D := 0) (W := _)).tuple (Nat.zero_le _)).mono (Nat.le_refl _) (Nat.le_refl _) a b (Nat.le_refl _)⟩
    have on : ∀ {m C D : Nat} {d : PyData}, Bd 12 m C D 400 d → Bd 12 m (C + 5) (D + 1) 400 (.list [d]) := fun h => (Bds.one h).list (by show 1 ≤ 400; decide)
    show ∃ (q : Addr) (xs : List V) (i : Int) (v : V), V.ref r3 = .ref q ∧ V.int z = .int i ∧ SqL K Z q xs ∧ atI xs i = some v ∧ Q v Z
    have one : ∀ {p : Addr} {x : V} {d : PyData}, off Z S p = some (.lst [x]) → Dp K (off Z S) x d → Dp K (off Z S) (.ref p) (.list [d]) := fun h k => .lst (SqL.of h) (.cons k .nil)
    rw [eL] at fin
    rcases h14 with rfl | rfl | rfl | rfl | rfl | rfl | rfl | rfl | rfl | rfl | rfl | rfl | rfl | rfl
    · exact fin _ .none rfl .non (fs bd_none (by decide) (by decide) (by decide : 0 ≤ 4000))
    · exact fin _ (.int 0) rfl (.int _) (fs (bd_int (by decide)) (by decide) (by decide) (by decide : 0 ≤ 4000))
    · exact fin _ (.str "") rfl (.str _) (fs (bd_str (n := 12) (by decide +kernel) (by decide) (ascii_of (by decide +kernel))) (by decide) (by decide) (by decide : 0 ≤ 4000))
    · exact fin _ (.str "hours") rfl (.str _) (fs (bd_str (n := 12) (by decide +kernel) (by decide) (ascii_of (by decide +kernel))) (by decide) (by decide) (by decide : 0 ≤ 4000))
    · exact fin _ (.bool true) rfl (.bl _) (fs (bd_bool _) (by decide) (by decide) (by decide : 0 ≤ 4000))
    · exact fin _ (.tuple []) rfl (.tup (.inl (.inl f1)) .nil) (fs (e0 (C := 3) (D := 1) (W := 400) (by decide) (by decide)).2 (by decide) (by decide) (by decide))
    · exact fin _ (.list [.list []]) rfl (one f3 (.lst (SqL.of f2) .nil)) (fs (on (e0 (C := 3) (D := 1) (W := 400) (by decide) (by decide)).1) (by decide) (by decide) (by decide))
    · exact fin _ (.list [.tuple []]) rfl (one f5 (.tup (.inl (.inl f4)) .nil)) (fs (on (e0 (C := 3) (D := 1) (W := 400) (by decide) (by decide)).2) (by decide) (by decide) (by decide))
    · exact fin _ (.tuple ds) rfl (.tup (.inl (.inl f6)) daz) (fs (bs.tuple l4) (by decide) (by decide) (by decide))
    · exact fin _ (.list [.list ds]) rfl (one f7 (.lst (SqL.of fR) daz)) (fs (on bl) (by decide) (by decide) (by decide))
    · exact fin _ (.str (PyData.list ds).shown) rfl (.str _) ⟨fun c hc => Nat.lt_trans (sa c hc) (by decide), Nat.zero_le _, by show 10 * _ + 2 ≤ _; omega, Nat.zero_le _⟩
    · exact fin _ (.list [.none]) rfl (one f8 .non) (fs (on (bd_none.mono (Nat.le_refl _) (Nat.le_refl _) (Nat.le_refl _) (Nat.le_refl _) (Nat.zero_le _))) (by decide) (by decide) (by decide))
    · exact fin _ (.list [.list [.list [.list [.list [.list [.list []]]]]]]) rfl (one g6 (one g5 (one g4 (one g3 (one g2 (one g1 (.lst (SqL.of g0) .nil))))))) (fs (on (on (on (on (on (on (e0 (C := 3) (D := 1) (W := 400) (by decide) (by decide)).1)))))) (by decide) (by decide) (by decide))
    · exact fin _ (.tuple [.list ds, .list []]) rfl (.tup (.inl (.inl h1)) (.cons (.lst (SqL.of fR) daz) (.cons (.lst (SqL.of h0) .nil) .nil))) (fs (((Bds.one bl).app (Bds.one ((e0 (C := 3) (D := 1) (W := 400) (by decide) (by decide)).1.mono (Nat.le_refl _) (Nat.le_refl _) (by decide : 3 ≤ 4000003) (by decide : 1 ≤ 3) (Nat.le_refl _)))).tuple (by show 2 ≤ 400; decide)) (by decide) (by decide) (by decide))

end
end Pot

namespace Pot
open PySem PySem.Spec PyProof.Rows L2
section
variable {P : Program} {w : World} {K : PySem.W.Frag} {mg : Str → Option Value} {base : Heap}
/-- rows of any data, each bounded -/
structure Rws (m C D W L : Nat) (ds : List PyData) : Prop where
  b : ∀ d ∈ ds, Bd 12 m C D W d
  l : ds.length ≤ L
theorem Rws.mono {m C D W L m' C' D' W' L' : Nat} {ds : List PyData} (h : Rws m C D W L ds) (h1 : m ≤ m') (h2 : C ≤ C') (h3 : D ≤ D') (h4 : W ≤ W') (h5 : L ≤ L') : Rws m' C' D' W' L' ds := ⟨fun d hd => (h.b d hd).mono (Nat.le_refl _) h1 h2 h3 h4, Nat.le_trans h.l h5⟩
theorem rws_sub {m C D W L' : Nat} {ds es : List PyData} (eb : ∀ d ∈ ds, Bd 12 m C D W d) (h : ∀ d ∈ es, d ∈ ds) (l : es.length ≤ L') : Rws m C D W L' es := ⟨fun d hd => eb d (h d hd), l⟩
theorem rws_bds {m C D W : Nat} : ∀ {ds : List PyData}, (∀ d ∈ ds, Bd 12 m C D W d) → Bds 12 m ((C + 2) * ds.length) D W ds
  | [], _ => Bds.nil
  | x :: l, h => by
    have h1 := Bds.one (h x List.mem_cons_self)
    have h2 := rws_bds (ds := l) fun y hy => h y (List.mem_cons_of_mem _ hy)
    exact (h1.app h2).mono (Nat.le_refl _) (Nat.le_refl _) (by rw [List.length_cons, Nat.mul_succ]; omega) (Nat.le_refl _) (Nat.le_refl _)
theorem Rws.bds {m C D W L : Nat} {ds : List PyData} (h : Rws m C D W L ds) : Bds 12 m ((C + 2) * L) D W ds := (rws_bds h.b).mono (Nat.le_refl _) (Nat.le_refl _) (Nat.mul_le_mul_left _ h.l) (Nat.le_refl _) (Nat.le_refl _)
theorem Rws.fin {m C D W L : Nat} {ds : List PyData} (h : Rws m C D W L ds) (h1 : m ≤ 10 ^ 12) (h2 : (C + 2) * L ≤ 16777000) (h3 : D ≤ 50) (h4 : W ≤ 4000) (h5 : L ≤ 4000) : FinD (.list ds) ∧ FinD (.tuple ds) := by
  have b := h.bds.mono (Nat.le_refl _) (Nat.le_refl _) (Nat.le_refl _) (Nat.le_refl _) h4
  exact ⟨(b.list (Nat.le_trans h.l h5)).fin h1 (by omega) (by omega) (Nat.le_refl _), (b.tuple (Nat.le_trans h.l h5)).fin h1 (by omega) (by omega) (Nat.le_refl _)⟩
theorem whD_int {d : PyData} (h : whD d = true) : ∃ i, d = .int i := by cases d <;> first | exact ⟨_, rfl⟩ | cases h
theorem whs_ints {K : PySem.W.Frag} {H : Hp} : ∀ {ds : List PyData} {zs : List V}, DpAll K H zs ds → ds.all whD = true → ∃ ns : List Int, zs = ns.map V.int ∧ ds = ns.map PyData.int
  | [], _, z, _ => by
    cases z
    exact ⟨[], rfl, rfl⟩
  | d :: ds, _, z, h => by
    rw [List.all_cons, Bool.and_eq_true] at h
    obtain ⟨i, rfl⟩ := whD_int h.1
    cases z with
    | cons a r =>
      cases a
      obtain ⟨ns, e1, e2⟩ := whs_ints r h.2
      exact ⟨i :: ns, by rw [e1]; rfl, by rw [e2]; rfl⟩
abbrev s__law_bent : Stmt := topS 26
def n__law_bent : List Str := ["_law_state", "_law_row", "_law_many", "_law_way", "_law_at", "_law_part", "_law_some", "_law_more", "_law_one"]
theorem sc__law_bent : FnScope n__law_bent ["_law_state", "_law_row", "_law_many"] (defScope s__law_bent) := ⟨rfl, rfl, rfl, by decide +kernel, rfl, by decide +kernel, by decide +kernel⟩
def spBent (K : PySem.W.Frag) : Sp := fun vs H Q _ => ∃ (b R : Addr) (cnt m C D W L many : Nat) (zs : List V) (ds : List PyData), vs = [.ref b, .ref R, .int (many : Nat)] ∧ Bq H b cnt ∧ cnt < 2 ^ 37 ∧ off H [b] R = some (.lst zs) ∧ DpAll K (off H [b]) zs ds ∧ Rws m C D W L ds ∧ 1000 ≤ m ∧ m ≤ 10 ^ 9 ∧ 2000 ≤ C ∧ 1 ≤ D ∧ D ≤ 50 ∧ 12 ≤ W ∧ L ≤ 60 ∧ many ≤ 60 ∧
  ∀ (H' : Hp) (R' : Addr) (zs' : List V) (ds' : List PyData), Bq H' b (cnt + 10) → Sm [b] H H' → off H' [b] R' = some (.lst zs') → DpAll K (off H' [b]) zs' ds' → Rws (m + 1) C D W (L + 1) ds' → Q (.ref R') H'
set_option maxHeartbeats 8000000 in
theorem ok_bent {f : Addr} {fd : FuncData} {k : Nat} (F : Fun K "_law_bent" "_law_bent" s__law_bent f fd) (T : Txt mg) (c__law_take : Cl P w K mg base (k + 1) "_law_take" spTake) (c__law_whole : Cl P w K mg base (k + 1) "_law_whole" (spWh K)) : FnOk P w K mg base CX0 (k + 2) f fd ["_law_state", "_law_row", "_law_many"] (spBent K) := by
  refine F.ok sc__law_bent (fun vs H Q E h => ?_) (fun cdv A outer s H vs Q E hr h => ?_)
  · obtain ⟨b, R, cnt, m, C, D, W, L, many, zs, ds, rfl, _⟩ := h
    rfl
  · obtain ⟨b, R, cnt, m, C, D, W, L, many, zs, ds, rfl, B, hn, fR, daz, rw0, hm, hm2, hC, hD, hD2, hW, hL, hmany, q⟩ := h
    have nd := sc__law_bent.nd
    have hu65 : (A.deeper (envOfC (Str.ofString "_law_bent") (defScope s__law_bent) s.heap.objs.size f cdv)).units + 65 < cLine := by have := hr.un; omega
    refine ⟨_, (pss_cons (ps_par (i := 3) (j := 4) rfl nd rfl rfl (by decide) rfl rfl (pa_cons (pe_cl c__law_take hr (by omega) (by rfl) (pa_cons (pv 0) (pa_cons pe_int pa_nil))) (pa_cons (pe_cl c__law_take hr (by omega) (by rfl) (pa_cons (pv 0) (pa_cons (pe_op op_add (pe_callB (kc_len (K := K)) (by rfl) T.len PySem.boot_len (pa_cons (pv 1) pa_nil)) pe_int) pa_nil))) pa_nil)) rfl)
      (pss_cons (ps_if ((pw_and (pt_cmpR op_lt (pv 3) pe_int (nomark _)) (pw_and (pt_cmpR op_lt (pv 4) (pe_callB (kc_len (K := K)) (by rfl) T.len PySem.boot_len (pa_cons (pv 1) pa_nil)) (nomark _)) (pw_and1 (pt_val (pe_cl c__law_whole hr (by omega) (by rfl) (pa_cons (pe_ix (kx_list (K := K)) (pv 1) (pv 4) (fun _ _ => rfl)) pa_nil))))))).pt
          (pss_cons (ps_set (i := 5) nd rfl (.inl rfl) (pe_ix (kx_list (K := K)) (pv 1) (pv 4) (fun _ _ => rfl)))
          (pss_cons (ps_set (i := 6) nd rfl (.inl rfl) (pe_lst (pa_cons (pe_op op_add (pv 5) pe_int) (pa_cons (pe_op op_sub (pv 5) pe_int) (pa_cons (pe_un un_neg pe_int) (pa_cons (pv 2) (pa_cons (pe_cmpR op_eq (pv 5) pe_int (nomark _)) (pa_cons pe_non (pa_cons (pe_callTy call_str_int (by rfl) T.str (by decide +kernel) (pa_cons (pv 5) pa_nil)) (pa_cons (pe_lst (pa_cons (pv 5) pa_nil)) (pa_cons (pe_tup (pa_cons (pv 5) pa_nil)) (pa_cons (pe_cl c__law_take hr (by omega) (by rfl) (pa_cons (pv 0) (pa_cons (pe_op op_add (pv 2) pe_int) pa_nil))) pa_nil))))))))))))
          (pss_one (ps_ret (pe_op op_cat (pe_op op_cat (pe_slice (kl_list (K := K)) (pv 1) po_none (po_some (pv 4))) (pe_lst (pa_cons (pe_ix (kx_list (K := K)) (pv 6) (pe_cl c__law_take hr (by omega) (by rfl) (pa_cons (pv 0) (pa_cons pe_int pa_nil))) (fun _ _ => rfl)) pa_nil))) (pe_slice (kl_list (K := K)) (pv 1) (po_some (pe_op op_add (pv 4) pe_int)) po_none))))))
          pss_nil)
      (pss_cons (ps_set (i := 7) nd rfl (.inl rfl) (pe_op op_cat (pe_lc (own := [("_law_one", 8)]) rfl nd (pi_range1 (by rfl) T.range (pa_cons (pv 2) pa_nil)) (blkOk_by (N := n__law_bent) (sc := defScope s__law_bent) (by decide +kernel)) (fun _ _ _ _ _ => (pg_name (i := 8) nd rfl (.inl rfl))) (fun _ _ _ _ _ => (pts_one (pt_cmpR (ko_notInD (K := K) hu65) (pv 8) (pv 1) rfl))) (fun _ _ _ _ _ => (pv 8))) (pe_lst (pa_cons pe_int pa_nil))))
      (pss_cons (ps_set (i := 6) nd rfl (.inl rfl) (pe_lst (pa_cons (pe_op op_cat (pe_slice (kl_list (K := K)) (pv 1) po_none (po_some (pv 4))) (pe_slice (kl_list (K := K)) (pv 1) (po_some (pe_op op_add (pv 4) pe_int)) po_none)) (pa_cons (pe_op op_cat (pe_op op_cat (pe_slice (kl_list (K := K)) (pv 1) po_none (po_some (pv 4))) (pe_slice (kl_list (K := K)) (pv 1) (po_some (pv 4)) (po_some (pe_op op_add (pv 4) pe_int)))) (pe_slice (kl_list (K := K)) (pv 1) (po_some (pv 4)) po_none)) (pa_cons (pe_revL (pv 1)) (pa_cons (pe_op op_cat (pe_slice (kl_list (K := K)) (pv 1) (po_some (pv 4)) po_none) (pe_slice (kl_list (K := K)) (pv 1) po_none (po_some (pv 4)))) pa_nil))))))
      (pss_cons (ps_if ((pw_and (pt_cmpR op_lt (pv 3) pe_int (nomark _)) (pw_and1 (pt_val (pe_callB (kc_all (K := K)) (by rfl) T.all (by decide +kernel) (pa_cons (pe_lc (own := [("_law_one", 8)]) rfl nd (ki_list (K := K) (pv 1)) (blkOk_by (N := n__law_bent) (sc := defScope s__law_bent) (by decide +kernel)) (fun _ _ _ _ _ => (pg_name (i := 8) nd rfl (.inl rfl))) (fun _ _ _ _ _ => pts_nil) (fun _ _ _ _ _ => (pe_cl c__law_whole hr (by omega) (by rfl) (pa_cons (pv 8) pa_nil)))) pa_nil)))))).pt
          (pss_one (ps_ret (pe_callB (kc_sorted (K := K)) (by rfl) T.sorted (by decide +kernel) (pa_cons (pe_op op_cat (pv 1) (pe_lst (pa_cons (pe_ix (kx_list (K := K)) (pv 7) (pe_cl c__law_take hr (by omega) (by rfl) (pa_cons (pv 0) (pa_cons (pe_callB (kc_len (K := K)) (by rfl) T.len PySem.boot_len (pa_cons (pv 7) pa_nil)) pa_nil))) (fun _ _ => rfl)) pa_nil))) pa_nil))))
          pss_nil)
      (pss_one (ps_ret (pe_ix (kx_list (K := K)) (pe_op op_cat (pv 6) (pe_lst (pa_cons (pe_op op_cat (pe_op op_cat (pe_slice (kl_list (K := K)) (pv 1) po_none (po_some (pv 4))) (pe_lst (pa_cons (pe_ix (kx_list (K := K)) (pv 7) (pe_cl c__law_take hr (by omega) (by rfl) (pa_cons (pv 0) (pa_cons (pe_callB (kc_len (K := K)) (by rfl) T.len PySem.boot_len (pa_cons (pv 7) pa_nil)) pa_nil))) (fun _ _ => rfl)) pa_nil))) (pe_slice (kl_list (K := K)) (pv 1) (po_some (pv 4)) po_none)) pa_nil))) (pe_cl c__law_take hr (by omega) (by rfl) (pa_cons (pv 0) (pa_cons pe_int pa_nil))) (fun _ _ => rfl))))))))), ?_⟩
    obtain ⟨S, eS⟩ : ∃ S, S = [b] := ⟨_, rfl⟩
    have hb : b ∈ S := by rw [eS]; exact List.mem_cons_self
    have lv : Live S H := by rw [eS]; exact Live.q B
    have sc : Sm [b] H H := Same.refl _
    rw [← eS] at fR daz
    have lz : zs.length = ds.length := dpAll_len daz
    have lL := rw0.l
    refine ⟨_, rfl, b, 9, cnt, rfl, (by decide), (by decide), B, by omega, fun H1 way w0 w1 B1 s1 => ?_⟩
    have lv := lv.box B1.bx s1
    have sc := sc.trans s1
    have B := B1
    have fR := (sm_one hb s1) _ _ fR
    have daz := dpAll_same ((sm_one hb s1)) daz
    refine ⟨_, rfl, _, rfl, _, _, rfl, .inl ⟨_, SqL.of (at_off fR), rfl⟩, _, _, rfl, rfl, b, _, _, rfl, (by omega), (by omega), B, by omega, fun H2 a0 a1 a2 B2 s2 => ?_⟩
    have lv := lv.box B2.bx s2
    have sc := sc.trans s2
    have B := B2
    have fR := (sm_one hb s2) _ _ fR
    have daz := dpAll_same ((sm_one hb s2)) daz
    obtain ⟨a, rfl⟩ : ∃ a : Nat, a0 = (a : Int) := ⟨a0.toNat, by omega⟩
    have eb : ∀ d ∈ ds, Bd 12 (m + 1) C D W d := fun d hd => (rw0.b d hd).mono (Nat.le_refl _) (by omega) (Nat.le_refl _) (Nat.le_refl _) (Nat.le_refl _)
    have bi : ∀ {j : Int}, j.natAbs ≤ m + 1 → Bd 12 (m + 1) C D W (.int j) := fun h => (bd_int h).mono (Nat.le_refl _) (Nat.le_refl _) (by omega) (Nat.zero_le _) (Nat.zero_le _)
    have ct : ∀ k : Nat, cutV zs none (some (k : Int)) = zs.take k := fun k => cut_head
    have cd : ∀ k : Nat, cutV zs (some (k : Int)) none = zs.drop k := fun k => cut_tail
    have cd1 : cutV zs (some ((a : Int) + 1)) none = zs.drop (a + 1) := cut_tail (k := a + 1)
    refine ⟨_, _, rfl, ?_⟩
    have est : ((L2.start n__law_bent [V.ref b, V.ref R, V.int (many : Nat)]).set 3 (some (V.int way))).set 4 (some (V.int (a : Int))) = [some (.ref b), some (.ref R), some (.int (many : Nat)), some (.int way), some (.int (a : Int)), none, none, none, none] := rfl
    dsimp only
    rw [est]
    have lal : a ≤ zs.length := by omega
    have ltk : (zs.take a).length ≤ a := by rw [List.length_take]; omega
    refine seq_mid (fun σ Hx => σ = [some (.ref b), some (.ref R), some (.int (many : Nat)), some (.int way), some (.int (a : Int)), none, none, none, none] ∧ Same H2 Hx) (fun N hN => ?_) (fun σ Hx h => ?_)
    · refine ⟨_, rfl, _, _, rfl, rfl, _, rfl, ite2 (fun hw => ?_) (fun _ => iteF (hN _ _ ⟨rfl, Same.refl _⟩))⟩
      refine ⟨_, rfl, _, rfl, _, _, rfl, .inl ⟨_, SqL.of (at_off fR), rfl⟩, _, _, rfl, rfl, _, rfl, ite2 (fun ha => ?_) (fun _ => iteF (hN _ _ ⟨rfl, Same.refl _⟩))⟩
      have lt : a < zs.length := by have := of_decide_eq_true ha; omega
      obtain ⟨v, gv⟩ : ∃ v, zs[a]? = some v := ⟨_, List.getElem?_eq_getElem lt⟩
      obtain ⟨d, gd0, dp⟩ := dpAll_at daz gv
      have dp0 := dp_off dp
      refine ⟨_, rfl, _, rfl, R, zs, _, v, rfl, rfl, SqL.of (at_off fR), atI_nat gv, v, d, rfl, dp0, fun H3 s3 => ⟨_, rfl, ite2 (fun hx => ?_) (fun _ => hN _ _ ⟨rfl, s3⟩)⟩⟩
      clear hN
      obtain ⟨i, rfl⟩ := whD_int hx
      obtain rfl : v = .int i := by cases dp; rfl
      have hi : i.natAbs ≤ m := (rw0.b _ (List.mem_of_getElem? gd0)).t.g
      have i11 : i.natAbs < 10 ^ 11 := by omega
      have ilog : i.natAbs.log2 < 1920 := log_smallW (by omega)
      have lv := lv.same s3
      have sc := sc.trans (sm_of (S := [b]) s3)
      have B := B.same s3
      have fR := (sm_of (S := S) s3) _ _ fR
      have daz := dpAll_same ((sm_of (S := S) s3)) daz
      refine ⟨_, rfl, _, rfl, R, zs, _, _, rfl, rfl, SqL.of (at_off fR), atI_nat gv, ?_⟩
      simp only [gName, List.set]
      refine ⟨_, rfl, _, _, rfl, rfl, _, rfl, _, _, rfl, rfl, _, rfl, _, rfl, _, rfl, rfl, _, rfl, i, rfl, ilog, _, rfl, (by show 1 ≤ sizeLine; decide), fun l1 n1 => ?_⟩
      have f1 := off_new (o := .lst [.int i]) lv n1
      have lv := lv.put (o := .lst [.int i]) n1
      have B := B.put (o := .lst [.int i]) n1
      have sc := sc.trans (sm_put (S := [b]) (o := .lst [.int i]) n1)
      have fR := (sm_put (S := S) (o := .lst [.int i]) n1) _ _ fR
      have daz := dpAll_same ((sm_put (S := S) (o := .lst [.int i]) n1)) daz
      generalize upd H3 l1 (.lst [.int i]) = H4 at f1 lv B sc fR daz ⊢
      refine ⟨_, rfl, (by show 1 ≤ sizeLine; decide), fun t1 n2 => ?_⟩
      have f2 := off_new (o := .tup [.int i]) lv n2
      have lv := lv.put (o := .tup [.int i]) n2
      have B := B.put (o := .tup [.int i]) n2
      have sc := sc.trans (sm_put (S := [b]) (o := .tup [.int i]) n2)
      have fR := (sm_put (S := S) (o := .tup [.int i]) n2) _ _ fR
      have f1 := (sm_put (S := S) (o := .tup [.int i]) n2) _ _ f1
      have daz := dpAll_same ((sm_put (S := S) (o := .tup [.int i]) n2)) daz
      generalize upd H4 t1 (.tup [.int i]) = H5 at f2 lv B sc fR f1 daz ⊢
      refine ⟨_, rfl, _, rfl, _, _, rfl, rfl, b, _, _, rfl, (by omega), (by omega), B, by omega, fun H6 r r0 r1 B6 s6 => ?_⟩
      have lv := lv.box B6.bx s6
      have sc := sc.trans s6
      have B := B6
      have fR := (sm_one hb s6) _ _ fR
      have f1 := (sm_one hb s6) _ _ f1
      have f2 := (sm_one hb s6) _ _ f2
      have daz := dpAll_same ((sm_one hb s6)) daz
      obtain ⟨L0, eL⟩ : ∃ L : List V, L = [.int (i + 1), .int (i - 1), .int (-1), .int (many : Nat), .bl (decide (V.int i = V.int 1)), .non, .str (Str.ofString (toString i)), .ref l1, .ref t1, .int r] := ⟨_, rfl⟩
      refine ⟨(by show 10 ≤ sizeLine; decide), fun e0 n3 => ?_⟩
      rw [← eL]
      have f3 := off_new (o := .lst L0) lv n3
      have lv := lv.put (o := .lst L0) n3
      have B := B.put (o := .lst L0) n3
      have sc := sc.trans (sm_put (S := [b]) (o := .lst L0) n3)
      have fR := (sm_put (S := S) (o := .lst L0) n3) _ _ fR
      have f1 := (sm_put (S := S) (o := .lst L0) n3) _ _ f1
      have f2 := (sm_put (S := S) (o := .lst L0) n3) _ _ f2
      have daz := dpAll_same ((sm_put (S := S) (o := .lst L0) n3)) daz
      generalize upd H6 e0 (.lst L0) = H7 at f3 lv B sc fR f1 f2 daz ⊢
      simp only [gName, List.set]
      refine ⟨_, rfl, _, rfl, _, rfl, R, _, rfl, SqL.of (at_off fR), fun p1 n1 => ?_⟩
      rw [ct]
      have g1 := off_new (o := .lst (zs.take a)) lv n1
      have lv := lv.put (o := .lst (zs.take a)) n1
      have B := B.put (o := .lst (zs.take a)) n1
      have sc := sc.trans (sm_put (S := [b]) (o := .lst (zs.take a)) n1)
      have fR := (sm_put (S := S) (o := .lst (zs.take a)) n1) _ _ fR
      have f1 := (sm_put (S := S) (o := .lst (zs.take a)) n1) _ _ f1
      have f2 := (sm_put (S := S) (o := .lst (zs.take a)) n1) _ _ f2
      have f3 := (sm_put (S := S) (o := .lst (zs.take a)) n1) _ _ f3
      have daz := dpAll_same ((sm_put (S := S) (o := .lst (zs.take a)) n1)) daz
      generalize upd H7 p1 (.lst (zs.take a)) = X1 at g1 lv B sc fR f1 f2 f3 daz ⊢
      refine ⟨_, rfl, _, rfl, b, 10, _, rfl, (by decide), (by decide), B, by omega, fun Z z z0 z1 B4 s4 => ?_⟩
      have lv := lv.box B4.bx s4
      have sc := sc.trans s4
      have B := B4
      have fR := (sm_one hb s4) _ _ fR
      have f1 := (sm_one hb s4) _ _ f1
      have f2 := (sm_one hb s4) _ _ f2
      have f3 := (sm_one hb s4) _ _ f3
      have g1 := (sm_one hb s4) _ _ g1
      have daz := dpAll_same ((sm_one hb s4)) daz
      have b1 : Bd 12 (m + 1) 1921 0 W (.int i) := (bd_int (n := 12) (m := m + 1) (i := i) (by omega)).mono (Nat.le_refl _) (Nat.le_refl _) (Nat.le_refl _) (Nat.le_refl _) (Nat.zero_le _)
      obtain ⟨x, e, gx, dx, bx⟩ : ∃ (x : V) (e : PyData), atI L0 z = some x ∧ Dp K (off Z S) x e ∧ Bd 12 (m + 1) C D W e := by
        have h10 : z = 0 ∨ z = 1 ∨ z = 2 ∨ z = 3 ∨ z = 4 ∨ z = 5 ∨ z = 6 ∨ z = 7 ∨ z = 8 ∨ z = 9 := by omega
        rw [eL]
        rcases h10 with rfl | rfl | rfl | rfl | rfl | rfl | rfl | rfl | rfl | rfl
        · exact ⟨_, .int (i + 1), rfl, .int _, bi (by omega)⟩
        · exact ⟨_, .int (i - 1), rfl, .int _, bi (by omega)⟩
        · exact ⟨_, .int (-1), rfl, .int _, bi (by show 1 ≤ m + 1; omega)⟩
        · exact ⟨_, .int (many : Nat), rfl, .int _, bi (by omega)⟩
        · exact ⟨_, .bool (decide (V.int i = V.int 1)), rfl, .bl _, (bd_bool _).mono (Nat.le_refl _) (Nat.le_refl _) (Nat.le_trans (by decide) hC) (Nat.zero_le _) (Nat.zero_le _)⟩
        · exact ⟨_, .none, rfl, .non, bd_none.mono (Nat.le_refl _) (Nat.le_refl _) (Nat.le_trans (by decide) hC) (Nat.zero_le _) (Nat.zero_le _)⟩
        · exact ⟨_, .str (Str.ofString (toString i)), rfl, .str _, (bd_str (text_small i11) (by decide) (text_ascii i)).mono (Nat.le_refl _) (Nat.le_refl _) (Nat.le_trans (by decide) hC) (Nat.zero_le _) (Nat.zero_le _)⟩
        · exact ⟨_, .list [.int i], rfl, .lst (SqL.of f1) (.cons (.int _) .nil), ((Bds.one b1).list (show [PyData.int i].length ≤ W by show 1 ≤ W; omega)).mono (Nat.le_refl _) (Nat.le_refl _) (Nat.le_trans (by decide) hC) hD (Nat.le_refl _)⟩
        · exact ⟨_, .tuple [.int i], rfl, .tup (.inl (.inl f2)) (.cons (.int _) .nil), ((Bds.one b1).tuple (show [PyData.int i].length ≤ W by show 1 ≤ W; omega)).mono (Nat.le_refl _) (Nat.le_refl _) (Nat.le_trans (by decide) hC) hD (Nat.le_refl _)⟩
        · exact ⟨_, .int r, rfl, .int _, bi (by omega)⟩
      refine ⟨e0, L0, z, x, rfl, rfl, SqL.of (at_off f3), gx, (by show 1 ≤ sizeLine; decide), fun l2 n4 => ?_⟩
      clear f1 f2 f3
      have g2 := off_new (o := .lst [x]) lv n4
      have lv := lv.put (o := .lst [x]) n4
      have B := B.put (o := .lst [x]) n4
      have sc := sc.trans (sm_put (S := [b]) (o := .lst [x]) n4)
      have fR := (sm_put (S := S) (o := .lst [x]) n4) _ _ fR
      have g1 := (sm_put (S := S) (o := .lst [x]) n4) _ _ g1
      have daz := dpAll_same ((sm_put (S := S) (o := .lst [x]) n4)) daz
      have dx := dp_same ((sm_put (S := S) (o := .lst [x]) n4)) dx
      generalize upd Z l2 (.lst [x]) = Z2 at g2 lv B sc fR g1 daz dx ⊢
      refine ⟨p1, l2, _, _, rfl, rfl, at_off g1, at_off g2, (by rw [sizeLine_eq]; simp only [List.length_append, List.length_take, List.length_drop, List.length_singleton]; omega), fun p2 n5 => ?_⟩
      have g3 := off_new (o := .lst (zs.take a ++ [x])) lv n5
      have lv := lv.put (o := .lst (zs.take a ++ [x])) n5
      have B := B.put (o := .lst (zs.take a ++ [x])) n5
      have sc := sc.trans (sm_put (S := [b]) (o := .lst (zs.take a ++ [x])) n5)
      have fR := (sm_put (S := S) (o := .lst (zs.take a ++ [x])) n5) _ _ fR
      have daz := dpAll_same ((sm_put (S := S) (o := .lst (zs.take a ++ [x])) n5)) daz
      have dx := dp_same ((sm_put (S := S) (o := .lst (zs.take a ++ [x])) n5)) dx
      generalize upd Z2 p2 (.lst (zs.take a ++ [x])) = Z3 at g3 lv B sc fR daz dx ⊢
      refine ⟨_, rfl, _, rfl, _, _, rfl, rfl, _, rfl, R, _, rfl, SqL.of (at_off fR), fun p4 n6 => ?_⟩
      rw [cd1]
      have g4 := off_new (o := .lst (zs.drop (a + 1))) lv n6
      have lv := lv.put (o := .lst (zs.drop (a + 1))) n6
      have B := B.put (o := .lst (zs.drop (a + 1))) n6
      have sc := sc.trans (sm_put (S := [b]) (o := .lst (zs.drop (a + 1))) n6)
      have g3 := (sm_put (S := S) (o := .lst (zs.drop (a + 1))) n6) _ _ g3
      have daz := dpAll_same ((sm_put (S := S) (o := .lst (zs.drop (a + 1))) n6)) daz
      have dx := dp_same ((sm_put (S := S) (o := .lst (zs.drop (a + 1))) n6)) dx
      generalize upd Z3 p4 (.lst (zs.drop (a + 1))) = Z4 at g4 lv B sc g3 daz dx ⊢
      refine ⟨p2, p4, _, _, rfl, rfl, at_off g3, at_off g4, (by rw [sizeLine_eq]; simp only [List.length_append, List.length_take, List.length_drop, List.length_singleton]; omega), fun p5 n7 => ?_⟩
      have g5 := off_new (o := .lst (zs.take a ++ [x] ++ zs.drop (a + 1))) lv n7
      have lv := lv.put (o := .lst (zs.take a ++ [x] ++ zs.drop (a + 1))) n7
      have B := B.put (o := .lst (zs.take a ++ [x] ++ zs.drop (a + 1))) n7
      have sc := sc.trans (sm_put (S := [b]) (o := .lst (zs.take a ++ [x] ++ zs.drop (a + 1))) n7)
      have daz := dpAll_same ((sm_put (S := S) (o := .lst (zs.take a ++ [x] ++ zs.drop (a + 1))) n7)) daz
      have dx := dp_same ((sm_put (S := S) (o := .lst (zs.take a ++ [x] ++ zs.drop (a + 1))) n7)) dx
      generalize upd Z4 p5 (.lst (zs.take a ++ [x] ++ zs.drop (a + 1))) = Z5 at g5 lv B sc daz dx ⊢
      rw [eS] at g5 daz dx
      refine q _ p5 _ (ds.take a ++ [e] ++ ds.drop (a + 1)) (B.mono (by omega)) sc g5 (dpAll_app' (dpAll_app' (dpAll_take a daz) (.cons dx .nil)) (dpAll_drop (a + 1) daz)) ⟨fun d hd => ?_, by simp only [List.length_append, List.length_take, List.length_drop, List.length_singleton]; omega⟩
      rcases List.mem_append.mp hd with hd | hd
      · rcases List.mem_append.mp hd with hd | hd
        · exact eb d (List.mem_of_mem_take hd)
        · rw [List.mem_singleton.mp hd]; exact bx
      · exact eb d (List.mem_of_mem_drop hd)
    obtain ⟨rfl, sx⟩ := h
    have lv := lv.same sx
    have sc := sc.trans (sm_of (S := [b]) sx)
    have B := B.same sx
    have fR := (sm_of (S := S) sx) _ _ fR
    have daz := dpAll_same ((sm_of (S := S) sx)) daz
    have shp : SeqAt.shaped (.list ds) = true := by
      have bl := (rw0.bds.mono (Nat.le_refl _) (Nat.le_refl _) (Nat.le_refl _) (Nat.le_refl _) (show W ≤ W + 60 by omega)).list (by omega)
      exact gd_shaped bl.t.g (Nat.le_trans bl.t.d (by omega))
    refine ⟨_, rfl, _, rfl, by omega, by omega, fun C0 nC => ?_⟩
    refine lc_it walk_range (fun i Hy => Same Hx Hy ∧ ∃ us : List Int, Hy C0 = some (.lst (us.map V.int)) ∧ us.length ≤ i ∧ ∀ u ∈ us, 0 ≤ u ∧ u ≤ 60) ⟨same_upd nC, [], upd_same, Nat.le_refl _, fun u h => (List.not_mem_nil h).elim⟩ (fun _ _ _ _ => trivial) ?_ ?_
    · rintro i y Hy Hz hi ⟨sy, us, hU, lu, bu⟩ ⟨rfl, rfl⟩
      refine ⟨rfl, _, rfl, _, rfl, .int (0 + (i : Int)), ds, .int _, .lst (SqL.of (sy _ _ (at_off fR))) (dpAll_same (off_sub.trans sy) daz), rfl, shp, _, rfl, ?_⟩
      refine ite2 (fun _ => ⟨_, rfl, us.map V.int, hU, by rw [List.length_map, sizeLine_eq]; omega, ?_⟩) (fun _ => ⟨sy, us, hU, by omega, bu⟩)
      refine ⟨same_put sy nC, us ++ [0 + (i : Int)], by rw [upd_same, List.map_append]; rfl, by rw [List.length_append]; show _ + 1 ≤ _; omega, fun u hu => ?_⟩
      rcases List.mem_append.mp hu with h | h
      · exact bu u h
      · rw [List.mem_singleton.mp h]; omega
    rintro Hy ⟨sy, us, hU, lu, bu⟩
    have fC : off Hy S C0 = some (.lst (us.map V.int)) := by rw [off_out (off_mem (off_new (o := .lst []) lv nC))]; exact hU
    have lv := lv.same sy
    have sc := sc.trans (sm_of (S := [b]) sy)
    have B := B.same sy
    have fR := (sm_of (S := S) sy) _ _ fR
    have daz := dpAll_same ((sm_of (S := S) sy)) daz
    clear sy sx hU nC
    refine ⟨(by show 1 ≤ sizeLine; decide), fun l0 n0 => ?_⟩
    have f0 := off_new (o := .lst [.int 0]) lv n0
    have lv := lv.put (o := .lst [.int 0]) n0
    have B := B.put (o := .lst [.int 0]) n0
    have sc := sc.trans (sm_put (S := [b]) (o := .lst [.int 0]) n0)
    have fR := (sm_put (S := S) (o := .lst [.int 0]) n0) _ _ fR
    have fC := (sm_put (S := S) (o := .lst [.int 0]) n0) _ _ fC
    have daz := dpAll_same ((sm_put (S := S) (o := .lst [.int 0]) n0)) daz
    generalize upd Hy l0 (.lst [.int 0]) = Y1 at f0 lv B sc fR fC daz ⊢
    refine ⟨C0, l0, _, _, rfl, rfl, at_off fC, at_off f0, (by rw [sizeLine_eq]; simp only [List.length_append, List.length_map, List.length_singleton]; omega), fun M nM => ?_⟩
    have em : us.map V.int ++ [V.int 0] = (us ++ [0]).map V.int := by rw [List.map_append]; rfl
    rw [em]
    obtain ⟨vs, eV⟩ : ∃ vs, vs = us ++ [(0 : Int)] := ⟨_, rfl⟩
    rw [← eV]
    have lvs : vs.length ≤ 61 := by rw [eV, List.length_append]; show _ + 1 ≤ _; omega
    have lvs1 : 1 ≤ vs.length := by rw [eV, List.length_append]; show 1 ≤ _ + 1; omega
    have bv : ∀ u ∈ vs, 0 ≤ u ∧ u ≤ 60 := fun u hu => by
      rw [eV] at hu
      rcases List.mem_append.mp hu with h | h
      · exact bu u h
      · rw [List.mem_singleton.mp h]; decide
    clear em eV bu lu
    have fM := off_new (o := .lst (vs.map V.int)) lv nM
    have lv := lv.put (o := .lst (vs.map V.int)) nM
    have B := B.put (o := .lst (vs.map V.int)) nM
    have sc := sc.trans (sm_put (S := [b]) (o := .lst (vs.map V.int)) nM)
    have fR := (sm_put (S := S) (o := .lst (vs.map V.int)) nM) _ _ fR
    have daz := dpAll_same ((sm_put (S := S) (o := .lst (vs.map V.int)) nM)) daz
    generalize upd Y1 M (.lst (vs.map V.int)) = Y2 at fM lv B sc fR daz ⊢
    simp only [gName, List.set]
    obtain ⟨y5, d5, ey5, da5, m5, l5⟩ : ∃ (y5 : List V) (d5 : List PyData), cutV zs (some (a : Int)) (some ((a : Int) + 1)) = y5 ∧ (∀ H, DpAll K H zs ds → DpAll K H y5 d5) ∧ (∀ d ∈ d5, d ∈ ds) ∧ y5.length ≤ 1 := by
      refine ⟨_, (ds.drop (HT.sIx zs.length 0 (some (a : Int)))).take (HT.sIx zs.length zs.length (some ((a : Int) + 1)) - HT.sIx zs.length 0 (some (a : Int))), rfl, fun H h => dpAll_take _ (dpAll_drop _ h), fun d hd => List.mem_of_mem_drop (List.mem_of_mem_take hd), cut_one zs a⟩
    refine ⟨_, rfl, _, rfl, _, rfl, R, _, rfl, SqL.of (at_off fR), fun p1 n1 => ?_⟩
    rw [ct]
    have f1 := off_new (o := .lst (zs.take a)) lv n1
    have lv := lv.put (o := .lst (zs.take a)) n1
    have B := B.put (o := .lst (zs.take a)) n1
    have sc := sc.trans (sm_put (S := [b]) (o := .lst (zs.take a)) n1)
    have fR := (sm_put (S := S) (o := .lst (zs.take a)) n1) _ _ fR
    have fM := (sm_put (S := S) (o := .lst (zs.take a)) n1) _ _ fM
    have daz := dpAll_same ((sm_put (S := S) (o := .lst (zs.take a)) n1)) daz
    generalize upd Y2 p1 (.lst (zs.take a)) = X4 at f1 lv B sc fR fM daz ⊢
    refine ⟨_, rfl, _, rfl, _, _, rfl, rfl, _, rfl, R, _, rfl, SqL.of (at_off fR), fun p2 n2 => ?_⟩
    rw [cd1]
    have f2 := off_new (o := .lst (zs.drop (a + 1))) lv n2
    have lv := lv.put (o := .lst (zs.drop (a + 1))) n2
    have B := B.put (o := .lst (zs.drop (a + 1))) n2
    have sc := sc.trans (sm_put (S := [b]) (o := .lst (zs.drop (a + 1))) n2)
    have fR := (sm_put (S := S) (o := .lst (zs.drop (a + 1))) n2) _ _ fR
    have fM := (sm_put (S := S) (o := .lst (zs.drop (a + 1))) n2) _ _ fM
    have f1 := (sm_put (S := S) (o := .lst (zs.drop (a + 1))) n2) _ _ f1
    have daz := dpAll_same ((sm_put (S := S) (o := .lst (zs.drop (a + 1))) n2)) daz
    generalize upd X4 p2 (.lst (zs.drop (a + 1))) = X5 at f2 lv B sc fR fM f1 daz ⊢
    refine ⟨p1, p2, _, _, rfl, rfl, at_off f1, at_off f2, (by rw [sizeLine_eq]; simp only [List.length_append, List.length_take, List.length_drop, List.length_reverse]; omega), fun p3 n3 => ?_⟩
    have f3 := off_new (o := .lst (zs.take a ++ zs.drop (a + 1))) lv n3
    have lv := lv.put (o := .lst (zs.take a ++ zs.drop (a + 1))) n3
    have B := B.put (o := .lst (zs.take a ++ zs.drop (a + 1))) n3
    have sc := sc.trans (sm_put (S := [b]) (o := .lst (zs.take a ++ zs.drop (a + 1))) n3)
    have fR := (sm_put (S := S) (o := .lst (zs.take a ++ zs.drop (a + 1))) n3) _ _ fR
    have fM := (sm_put (S := S) (o := .lst (zs.take a ++ zs.drop (a + 1))) n3) _ _ fM
    have daz := dpAll_same ((sm_put (S := S) (o := .lst (zs.take a ++ zs.drop (a + 1))) n3)) daz
    generalize upd X5 p3 (.lst (zs.take a ++ zs.drop (a + 1))) = X6 at f3 lv B sc fR fM daz ⊢
    refine ⟨_, rfl, _, rfl, _, rfl, R, _, rfl, SqL.of (at_off fR), fun p4 n4 => ?_⟩
    rw [ct]
    have f4 := off_new (o := .lst (zs.take a)) lv n4
    have lv := lv.put (o := .lst (zs.take a)) n4
    have B := B.put (o := .lst (zs.take a)) n4
    have sc := sc.trans (sm_put (S := [b]) (o := .lst (zs.take a)) n4)
    have fR := (sm_put (S := S) (o := .lst (zs.take a)) n4) _ _ fR
    have fM := (sm_put (S := S) (o := .lst (zs.take a)) n4) _ _ fM
    have f3 := (sm_put (S := S) (o := .lst (zs.take a)) n4) _ _ f3
    have daz := dpAll_same ((sm_put (S := S) (o := .lst (zs.take a)) n4)) daz
    generalize upd X6 p4 (.lst (zs.take a)) = X7 at f4 lv B sc fR fM f3 daz ⊢
    refine ⟨_, rfl, _, rfl, _, rfl, _, rfl, _, _, rfl, rfl, _, rfl, R, _, rfl, SqL.of (at_off fR), fun p5 n5 => ?_⟩
    rw [ey5]
    have f5 := off_new (o := .lst y5) lv n5
    have lv := lv.put (o := .lst y5) n5
    have B := B.put (o := .lst y5) n5
    have sc := sc.trans (sm_put (S := [b]) (o := .lst y5) n5)
    have fR := (sm_put (S := S) (o := .lst y5) n5) _ _ fR
    have fM := (sm_put (S := S) (o := .lst y5) n5) _ _ fM
    have f3 := (sm_put (S := S) (o := .lst y5) n5) _ _ f3
    have f4 := (sm_put (S := S) (o := .lst y5) n5) _ _ f4
    have daz := dpAll_same ((sm_put (S := S) (o := .lst y5) n5)) daz
    generalize upd X7 p5 (.lst y5) = X8 at f5 lv B sc fR fM f3 f4 daz ⊢
    refine ⟨p4, p5, _, _, rfl, rfl, at_off f4, at_off f5, (by rw [sizeLine_eq]; simp only [List.length_append, List.length_take, List.length_drop, List.length_reverse]; omega), fun p6 n6 => ?_⟩
    have f6 := off_new (o := .lst (zs.take a ++ y5)) lv n6
    have lv := lv.put (o := .lst (zs.take a ++ y5)) n6
    have B := B.put (o := .lst (zs.take a ++ y5)) n6
    have sc := sc.trans (sm_put (S := [b]) (o := .lst (zs.take a ++ y5)) n6)
    have fR := (sm_put (S := S) (o := .lst (zs.take a ++ y5)) n6) _ _ fR
    have fM := (sm_put (S := S) (o := .lst (zs.take a ++ y5)) n6) _ _ fM
    have f3 := (sm_put (S := S) (o := .lst (zs.take a ++ y5)) n6) _ _ f3
    have daz := dpAll_same ((sm_put (S := S) (o := .lst (zs.take a ++ y5)) n6)) daz
    generalize upd X8 p6 (.lst (zs.take a ++ y5)) = X9 at f6 lv B sc fR fM f3 daz ⊢
    refine ⟨_, rfl, _, rfl, _, rfl, R, _, rfl, SqL.of (at_off fR), fun p7 n7 => ?_⟩
    rw [cd]
    have f7 := off_new (o := .lst (zs.drop a)) lv n7
    have lv := lv.put (o := .lst (zs.drop a)) n7
    have B := B.put (o := .lst (zs.drop a)) n7
    have sc := sc.trans (sm_put (S := [b]) (o := .lst (zs.drop a)) n7)
    have fR := (sm_put (S := S) (o := .lst (zs.drop a)) n7) _ _ fR
    have fM := (sm_put (S := S) (o := .lst (zs.drop a)) n7) _ _ fM
    have f3 := (sm_put (S := S) (o := .lst (zs.drop a)) n7) _ _ f3
    have f6 := (sm_put (S := S) (o := .lst (zs.drop a)) n7) _ _ f6
    have daz := dpAll_same ((sm_put (S := S) (o := .lst (zs.drop a)) n7)) daz
    generalize upd X9 p7 (.lst (zs.drop a)) = X10 at f7 lv B sc fR fM f3 f6 daz ⊢
    refine ⟨p6, p7, _, _, rfl, rfl, at_off f6, at_off f7, (by rw [sizeLine_eq]; simp only [List.length_append, List.length_take, List.length_drop, List.length_reverse]; omega), fun p8 n8 => ?_⟩
    have f8 := off_new (o := .lst (zs.take a ++ y5 ++ zs.drop a)) lv n8
    have lv := lv.put (o := .lst (zs.take a ++ y5 ++ zs.drop a)) n8
    have B := B.put (o := .lst (zs.take a ++ y5 ++ zs.drop a)) n8
    have sc := sc.trans (sm_put (S := [b]) (o := .lst (zs.take a ++ y5 ++ zs.drop a)) n8)
    have fR := (sm_put (S := S) (o := .lst (zs.take a ++ y5 ++ zs.drop a)) n8) _ _ fR
    have fM := (sm_put (S := S) (o := .lst (zs.take a ++ y5 ++ zs.drop a)) n8) _ _ fM
    have f3 := (sm_put (S := S) (o := .lst (zs.take a ++ y5 ++ zs.drop a)) n8) _ _ f3
    have daz := dpAll_same ((sm_put (S := S) (o := .lst (zs.take a ++ y5 ++ zs.drop a)) n8)) daz
    generalize upd X10 p8 (.lst (zs.take a ++ y5 ++ zs.drop a)) = X11 at f8 lv B sc fR fM f3 daz ⊢
    refine ⟨_, rfl, R, _, rfl, SqL.of (at_off fR), fun p9 n9 => ?_⟩
    have f9 := off_new (o := .lst zs.reverse) lv n9
    have lv := lv.put (o := .lst zs.reverse) n9
    have B := B.put (o := .lst zs.reverse) n9
    have sc := sc.trans (sm_put (S := [b]) (o := .lst zs.reverse) n9)
    have fR := (sm_put (S := S) (o := .lst zs.reverse) n9) _ _ fR
    have fM := (sm_put (S := S) (o := .lst zs.reverse) n9) _ _ fM
    have f3 := (sm_put (S := S) (o := .lst zs.reverse) n9) _ _ f3
    have f8 := (sm_put (S := S) (o := .lst zs.reverse) n9) _ _ f8
    have daz := dpAll_same ((sm_put (S := S) (o := .lst zs.reverse) n9)) daz
    generalize upd X11 p9 (.lst zs.reverse) = X12 at f9 lv B sc fR fM f3 f8 daz ⊢
    refine ⟨_, rfl, _, rfl, _, rfl, R, _, rfl, SqL.of (at_off fR), fun q1 k1 => ?_⟩
    rw [cd]
    have g1 := off_new (o := .lst (zs.drop a)) lv k1
    have lv := lv.put (o := .lst (zs.drop a)) k1
    have B := B.put (o := .lst (zs.drop a)) k1
    have sc := sc.trans (sm_put (S := [b]) (o := .lst (zs.drop a)) k1)
    have fR := (sm_put (S := S) (o := .lst (zs.drop a)) k1) _ _ fR
    have fM := (sm_put (S := S) (o := .lst (zs.drop a)) k1) _ _ fM
    have f3 := (sm_put (S := S) (o := .lst (zs.drop a)) k1) _ _ f3
    have f8 := (sm_put (S := S) (o := .lst (zs.drop a)) k1) _ _ f8
    have f9 := (sm_put (S := S) (o := .lst (zs.drop a)) k1) _ _ f9
    have daz := dpAll_same ((sm_put (S := S) (o := .lst (zs.drop a)) k1)) daz
    generalize upd X12 q1 (.lst (zs.drop a)) = X13 at g1 lv B sc fR fM f3 f8 f9 daz ⊢
    refine ⟨_, rfl, _, rfl, _, rfl, R, _, rfl, SqL.of (at_off fR), fun q2 k2 => ?_⟩
    rw [ct]
    have g2 := off_new (o := .lst (zs.take a)) lv k2
    have lv := lv.put (o := .lst (zs.take a)) k2
    have B := B.put (o := .lst (zs.take a)) k2
    have sc := sc.trans (sm_put (S := [b]) (o := .lst (zs.take a)) k2)
    have fR := (sm_put (S := S) (o := .lst (zs.take a)) k2) _ _ fR
    have fM := (sm_put (S := S) (o := .lst (zs.take a)) k2) _ _ fM
    have f3 := (sm_put (S := S) (o := .lst (zs.take a)) k2) _ _ f3
    have f8 := (sm_put (S := S) (o := .lst (zs.take a)) k2) _ _ f8
    have f9 := (sm_put (S := S) (o := .lst (zs.take a)) k2) _ _ f9
    have g1 := (sm_put (S := S) (o := .lst (zs.take a)) k2) _ _ g1
    have daz := dpAll_same ((sm_put (S := S) (o := .lst (zs.take a)) k2)) daz
    generalize upd X13 q2 (.lst (zs.take a)) = X14 at g2 lv B sc fR fM f3 f8 f9 g1 daz ⊢
    refine ⟨q1, q2, _, _, rfl, rfl, at_off g1, at_off g2, (by rw [sizeLine_eq]; simp only [List.length_append, List.length_take, List.length_drop, List.length_reverse]; omega), fun q3 k3 => ?_⟩
    have g3 := off_new (o := .lst (zs.drop a ++ zs.take a)) lv k3
    have lv := lv.put (o := .lst (zs.drop a ++ zs.take a)) k3
    have B := B.put (o := .lst (zs.drop a ++ zs.take a)) k3
    have sc := sc.trans (sm_put (S := [b]) (o := .lst (zs.drop a ++ zs.take a)) k3)
    have fR := (sm_put (S := S) (o := .lst (zs.drop a ++ zs.take a)) k3) _ _ fR
    have fM := (sm_put (S := S) (o := .lst (zs.drop a ++ zs.take a)) k3) _ _ fM
    have f3 := (sm_put (S := S) (o := .lst (zs.drop a ++ zs.take a)) k3) _ _ f3
    have f8 := (sm_put (S := S) (o := .lst (zs.drop a ++ zs.take a)) k3) _ _ f8
    have f9 := (sm_put (S := S) (o := .lst (zs.drop a ++ zs.take a)) k3) _ _ f9
    have daz := dpAll_same ((sm_put (S := S) (o := .lst (zs.drop a ++ zs.take a)) k3)) daz
    generalize upd X14 q3 (.lst (zs.drop a ++ zs.take a)) = X15 at g3 lv B sc fR fM f3 f8 f9 daz ⊢
    refine ⟨(by show 4 ≤ sizeLine; decide), fun w0 kw => ?_⟩
    obtain ⟨L4, eL4⟩ : ∃ L4 : List V, L4 = [V.ref p3, V.ref p8, V.ref p9, V.ref q3] := ⟨_, rfl⟩
    rw [← eL4]
    have fw := off_new (o := .lst L4) lv kw
    have lv := lv.put (o := .lst L4) kw
    have B := B.put (o := .lst L4) kw
    have sc := sc.trans (sm_put (S := [b]) (o := .lst L4) kw)
    have fR := (sm_put (S := S) (o := .lst L4) kw) _ _ fR
    have fM := (sm_put (S := S) (o := .lst L4) kw) _ _ fM
    have f3 := (sm_put (S := S) (o := .lst L4) kw) _ _ f3
    have f8 := (sm_put (S := S) (o := .lst L4) kw) _ _ f8
    have f9 := (sm_put (S := S) (o := .lst L4) kw) _ _ f9
    have g3 := (sm_put (S := S) (o := .lst L4) kw) _ _ g3
    have daz := dpAll_same ((sm_put (S := S) (o := .lst L4) kw)) daz
    generalize upd X15 w0 (.lst L4) = X16 at fw lv B sc fR fM f3 f8 f9 g3 daz ⊢
    simp only [gName, List.set]
    have more : ∀ {z : Int}, 0 ≤ z → z < (vs.length : Int) → ∃ u : Int, atI (vs.map V.int) z = some (.int u) ∧ 0 ≤ u ∧ u ≤ 60 := fun {z} h1 h2 => by
      obtain ⟨n, rfl⟩ : ∃ n : Nat, z = (n : Int) := ⟨z.toNat, by omega⟩
      have hn : n < vs.length := by omega
      exact ⟨vs[n], atI_nat (by rw [List.getElem?_map, List.getElem?_eq_getElem hn]; rfl), bv _ (List.getElem_mem hn)⟩
    refine seq_mid (fun σ Hx => ∃ v8, σ = [some (.ref b), some (.ref R), some (.int (many : Nat)), some (.int way), some (.int (a : Int)), none, some (.ref w0), some (.ref M), v8] ∧ Same X16 Hx) (fun N hN => ?_) (fun σ Hx h => ?_)
    · refine ⟨_, rfl, _, _, rfl, rfl, _, rfl, ite2 (fun hw => ?_) (fun _ => iteF (hN _ _ ⟨_, rfl, Same.refl _⟩))⟩
      refine ⟨_, rfl, R, rfl, ⟨_, SqL.of (at_off fR)⟩, fun C1 nC => ?_⟩
      refine lc_it (walk_list (xs := zs)) (PvL X16 C1 fun i => ((ds.map whD).take i).map V.bl) (pv_start nC rfl) (fun i H4 _ h => SqL.of (h.1 _ _ (at_off fR))) ?_ ?_
      · rintro j y Hz Hw hj p ⟨rfl, gx⟩
        obtain ⟨d, gd0, dp⟩ := dpAll_at (dpAll_same p.1 (dpAll_same off_sub daz)) gx
        refine ⟨rfl, tYes_at ?_⟩
        rw [if_pos rfl]
        refine ⟨_, rfl, y, d, rfl, dp, fun H9 s9 => ?_⟩
        exact pv_put nC p s9 (take_map V.bl (by rw [List.getElem?_map, gd0]; rfl)) (take_len_le (by rw [List.length_map]; omega))
      · intro H4 p
        obtain ⟨s4, hD1⟩ := pv_end p (take_all (by rw [List.length_map]; omega))
        refine ⟨C1, _, rfl, SqL.of hD1, _, rfl, ?_⟩
        rw [show (ds.map whD).all id = ds.all whD by rw [List.all_map]; rfl]
        refine ite2 (fun hx => ?_) (fun _ => hN _ _ ⟨_, rfl, s4⟩)
        clear hN
        obtain ⟨ns, en, ed⟩ := whs_ints daz hx
        have lns : ns.length = ds.length := by rw [ed, List.length_map]
        have lv := lv.same s4
        have sc := sc.trans (sm_of (S := [b]) s4)
        have B := B.same s4
        have fR := (sm_of (S := S) s4) _ _ fR
        have fM := (sm_of (S := S) s4) _ _ fM
        have daz := dpAll_same ((sm_of (S := S) s4)) daz
        refine ⟨_, rfl, _, rfl, _, rfl, _, rfl, _, _, rfl, .inl ⟨_, SqL.of (at_off fM), rfl⟩, b, _, _, rfl, (by rw [List.length_map]; omega), (by rw [List.length_map]; omega), B, by omega, fun H5 z z0 z1 B5 s5 => ?_⟩
        have lv := lv.box B5.bx s5
        have sc := sc.trans s5
        have B := B5
        have fR := (sm_one hb s5) _ _ fR
        have fM := (sm_one hb s5) _ _ fM
        have daz := dpAll_same ((sm_one hb s5)) daz
        rw [List.length_map] at z1
        obtain ⟨u, gu, u0, u1⟩ := more z0 z1
        refine ⟨M, _, z, _, rfl, rfl, SqL.of (at_off fM), gu, (by show 1 ≤ sizeLine; decide), fun l n => ?_⟩
        have g1 := off_new (o := .lst [.int u]) lv n
        have lv := lv.put (o := .lst [.int u]) n
        have B := B.put (o := .lst [.int u]) n
        have sc := sc.trans (sm_put (S := [b]) (o := .lst [.int u]) n)
        have fR := (sm_put (S := S) (o := .lst [.int u]) n) _ _ fR
        generalize upd H5 l (.lst [.int u]) = H6 at g1 lv B sc fR ⊢
        refine ⟨R, l, _, _, rfl, rfl, at_off fR, at_off g1, (by rw [sizeLine_eq]; simp only [List.length_append, List.length_singleton]; omega), fun p n2 => ?_⟩
        have g2 := off_new (o := .lst (zs ++ [.int u])) lv n2
        have lv := lv.put (o := .lst (zs ++ [.int u])) n2
        have B := B.put (o := .lst (zs ++ [.int u])) n2
        have sc := sc.trans (sm_put (S := [b]) (o := .lst (zs ++ [.int u])) n2)
        generalize upd H6 p (.lst (zs ++ [.int u])) = H7 at g2 lv B sc  ⊢
        refine ⟨p, ns ++ [u], rfl, SqL.of (by rw [List.map_append, ← en]; exact at_off g2), by rw [List.length_append]; show _ + 1 < _; omega, fun ks p' pm so n' => ?_⟩
        have g3 := off_new (o := .lst (ks.map V.int)) lv n'
        have lv := lv.put (o := .lst (ks.map V.int)) n'
        have B := B.put (o := .lst (ks.map V.int)) n'
        have sc := sc.trans (sm_put (S := [b]) (o := .lst (ks.map V.int)) n')
        generalize upd H7 p' (.lst (ks.map V.int)) = H8 at g3 lv B sc  ⊢
        rw [eS] at g3
        refine q _ p' _ (ks.map PyData.int) (B.mono (by omega)) sc g3 (dp_ints _) ⟨fun d hd => ?_, by rw [List.length_map, pm.length_eq, List.length_append]; show _ + 1 ≤ _; omega⟩
        obtain ⟨k, hk, rfl⟩ := List.mem_map.mp hd
        rcases List.mem_append.mp (pm.mem_iff.mp hk) with h | h
        · exact eb _ (by rw [ed]; exact List.mem_map.mpr ⟨k, h, rfl⟩)
        · rw [List.mem_singleton.mp h]; exact bi (by omega)
    obtain ⟨v8, rfl, sx⟩ := h
    have lv := lv.same sx
    have sc := sc.trans (sm_of (S := [b]) sx)
    have B := B.same sx
    have fR := (sm_of (S := S) sx) _ _ fR
    have fM := (sm_of (S := S) sx) _ _ fM
    have f3 := (sm_of (S := S) sx) _ _ f3
    have f8 := (sm_of (S := S) sx) _ _ f8
    have f9 := (sm_of (S := S) sx) _ _ f9
    have g3 := (sm_of (S := S) sx) _ _ g3
    have fw := (sm_of (S := S) sx) _ _ fw
    have daz := dpAll_same ((sm_of (S := S) sx)) daz
    clear sx
    refine ⟨_, rfl, _, rfl, _, rfl, _, rfl, R, _, rfl, SqL.of (at_off fR), fun p1 n1 => ?_⟩
    rw [ct]
    have f1 := off_new (o := .lst (zs.take a)) lv n1
    have lv := lv.put (o := .lst (zs.take a)) n1
    have B := B.put (o := .lst (zs.take a)) n1
    have sc := sc.trans (sm_put (S := [b]) (o := .lst (zs.take a)) n1)
    have fR := (sm_put (S := S) (o := .lst (zs.take a)) n1) _ _ fR
    have fM := (sm_put (S := S) (o := .lst (zs.take a)) n1) _ _ fM
    have f3 := (sm_put (S := S) (o := .lst (zs.take a)) n1) _ _ f3
    have f8 := (sm_put (S := S) (o := .lst (zs.take a)) n1) _ _ f8
    have f9 := (sm_put (S := S) (o := .lst (zs.take a)) n1) _ _ f9
    have g3 := (sm_put (S := S) (o := .lst (zs.take a)) n1) _ _ g3
    have fw := (sm_put (S := S) (o := .lst (zs.take a)) n1) _ _ fw
    have daz := dpAll_same ((sm_put (S := S) (o := .lst (zs.take a)) n1)) daz
    generalize upd Hx p1 (.lst (zs.take a)) = Z1 at f1 lv B sc fR fM f3 f8 f9 g3 fw daz ⊢
    refine ⟨_, rfl, _, rfl, _, rfl, _, _, rfl, .inl ⟨_, SqL.of (at_off fM), rfl⟩, b, _, _, rfl, (by rw [List.length_map]; omega), (by rw [List.length_map]; omega), B, by omega, fun Z2 z z0 z1 B5 s5 => ?_⟩
    have lv := lv.box B5.bx s5
    have sc := sc.trans s5
    have B := B5
    have fR := (sm_one hb s5) _ _ fR
    have fM := (sm_one hb s5) _ _ fM
    have f3 := (sm_one hb s5) _ _ f3
    have f8 := (sm_one hb s5) _ _ f8
    have f9 := (sm_one hb s5) _ _ f9
    have g3 := (sm_one hb s5) _ _ g3
    have fw := (sm_one hb s5) _ _ fw
    have f1 := (sm_one hb s5) _ _ f1
    have daz := dpAll_same ((sm_one hb s5)) daz
    rw [List.length_map] at z1
    obtain ⟨u, gu, u0, u1⟩ := more z0 z1
    refine ⟨M, _, z, _, rfl, rfl, SqL.of (at_off fM), gu, (by show 1 ≤ sizeLine; decide), fun l n => ?_⟩
    have g1 := off_new (o := .lst [.int u]) lv n
    have lv := lv.put (o := .lst [.int u]) n
    have B := B.put (o := .lst [.int u]) n
    have sc := sc.trans (sm_put (S := [b]) (o := .lst [.int u]) n)
    have fR := (sm_put (S := S) (o := .lst [.int u]) n) _ _ fR
    have f3 := (sm_put (S := S) (o := .lst [.int u]) n) _ _ f3
    have f8 := (sm_put (S := S) (o := .lst [.int u]) n) _ _ f8
    have f9 := (sm_put (S := S) (o := .lst [.int u]) n) _ _ f9
    have g3 := (sm_put (S := S) (o := .lst [.int u]) n) _ _ g3
    have fw := (sm_put (S := S) (o := .lst [.int u]) n) _ _ fw
    have f1 := (sm_put (S := S) (o := .lst [.int u]) n) _ _ f1
    have daz := dpAll_same ((sm_put (S := S) (o := .lst [.int u]) n)) daz
    generalize upd Z2 l (.lst [.int u]) = Z3 at g1 lv B sc fR f3 f8 f9 g3 fw f1 daz ⊢
    refine ⟨p1, l, _, _, rfl, rfl, at_off f1, at_off g1, (by rw [sizeLine_eq]; simp only [List.length_append, List.length_take, List.length_singleton]; omega), fun p2 n2 => ?_⟩
    have f2 := off_new (o := .lst (zs.take a ++ [.int u])) lv n2
    have lv := lv.put (o := .lst (zs.take a ++ [.int u])) n2
    have B := B.put (o := .lst (zs.take a ++ [.int u])) n2
    have sc := sc.trans (sm_put (S := [b]) (o := .lst (zs.take a ++ [.int u])) n2)
    have fR := (sm_put (S := S) (o := .lst (zs.take a ++ [.int u])) n2) _ _ fR
    have f3 := (sm_put (S := S) (o := .lst (zs.take a ++ [.int u])) n2) _ _ f3
    have f8 := (sm_put (S := S) (o := .lst (zs.take a ++ [.int u])) n2) _ _ f8
    have f9 := (sm_put (S := S) (o := .lst (zs.take a ++ [.int u])) n2) _ _ f9
    have g3 := (sm_put (S := S) (o := .lst (zs.take a ++ [.int u])) n2) _ _ g3
    have fw := (sm_put (S := S) (o := .lst (zs.take a ++ [.int u])) n2) _ _ fw
    have daz := dpAll_same ((sm_put (S := S) (o := .lst (zs.take a ++ [.int u])) n2)) daz
    generalize upd Z3 p2 (.lst (zs.take a ++ [.int u])) = Z4 at f2 lv B sc fR f3 f8 f9 g3 fw daz ⊢
    refine ⟨_, rfl, _, rfl, _, rfl, R, _, rfl, SqL.of (at_off fR), fun p4 n4 => ?_⟩
    rw [cd]
    have f4 := off_new (o := .lst (zs.drop a)) lv n4
    have lv := lv.put (o := .lst (zs.drop a)) n4
    have B := B.put (o := .lst (zs.drop a)) n4
    have sc := sc.trans (sm_put (S := [b]) (o := .lst (zs.drop a)) n4)
    have f3 := (sm_put (S := S) (o := .lst (zs.drop a)) n4) _ _ f3
    have f8 := (sm_put (S := S) (o := .lst (zs.drop a)) n4) _ _ f8
    have f9 := (sm_put (S := S) (o := .lst (zs.drop a)) n4) _ _ f9
    have g3 := (sm_put (S := S) (o := .lst (zs.drop a)) n4) _ _ g3
    have fw := (sm_put (S := S) (o := .lst (zs.drop a)) n4) _ _ fw
    have f2 := (sm_put (S := S) (o := .lst (zs.drop a)) n4) _ _ f2
    have daz := dpAll_same ((sm_put (S := S) (o := .lst (zs.drop a)) n4)) daz
    generalize upd Z4 p4 (.lst (zs.drop a)) = Z5 at f4 lv B sc f3 f8 f9 g3 fw f2 daz ⊢
    refine ⟨p2, p4, _, _, rfl, rfl, at_off f2, at_off f4, (by rw [sizeLine_eq]; simp only [List.length_append, List.length_take, List.length_drop, List.length_singleton]; omega), fun p5 n5 => ?_⟩
    have f5 := off_new (o := .lst (zs.take a ++ [.int u] ++ zs.drop a)) lv n5
    have lv := lv.put (o := .lst (zs.take a ++ [.int u] ++ zs.drop a)) n5
    have B := B.put (o := .lst (zs.take a ++ [.int u] ++ zs.drop a)) n5
    have sc := sc.trans (sm_put (S := [b]) (o := .lst (zs.take a ++ [.int u] ++ zs.drop a)) n5)
    have f3 := (sm_put (S := S) (o := .lst (zs.take a ++ [.int u] ++ zs.drop a)) n5) _ _ f3
    have f8 := (sm_put (S := S) (o := .lst (zs.take a ++ [.int u] ++ zs.drop a)) n5) _ _ f8
    have f9 := (sm_put (S := S) (o := .lst (zs.take a ++ [.int u] ++ zs.drop a)) n5) _ _ f9
    have g3 := (sm_put (S := S) (o := .lst (zs.take a ++ [.int u] ++ zs.drop a)) n5) _ _ g3
    have fw := (sm_put (S := S) (o := .lst (zs.take a ++ [.int u] ++ zs.drop a)) n5) _ _ fw
    have daz := dpAll_same ((sm_put (S := S) (o := .lst (zs.take a ++ [.int u] ++ zs.drop a)) n5)) daz
    generalize upd Z5 p5 (.lst (zs.take a ++ [.int u] ++ zs.drop a)) = Z6 at f5 lv B sc f3 f8 f9 g3 fw daz ⊢
    refine ⟨(by show 1 ≤ sizeLine; decide), fun l5' n6 => ?_⟩
    have f6 := off_new (o := .lst [.ref p5]) lv n6
    have lv := lv.put (o := .lst [.ref p5]) n6
    have B := B.put (o := .lst [.ref p5]) n6
    have sc := sc.trans (sm_put (S := [b]) (o := .lst [.ref p5]) n6)
    have f3 := (sm_put (S := S) (o := .lst [.ref p5]) n6) _ _ f3
    have f8 := (sm_put (S := S) (o := .lst [.ref p5]) n6) _ _ f8
    have f9 := (sm_put (S := S) (o := .lst [.ref p5]) n6) _ _ f9
    have g3 := (sm_put (S := S) (o := .lst [.ref p5]) n6) _ _ g3
    have fw := (sm_put (S := S) (o := .lst [.ref p5]) n6) _ _ fw
    have f5 := (sm_put (S := S) (o := .lst [.ref p5]) n6) _ _ f5
    have daz := dpAll_same ((sm_put (S := S) (o := .lst [.ref p5]) n6)) daz
    generalize upd Z6 l5' (.lst [.ref p5]) = Z7 at f6 lv B sc f3 f8 f9 g3 fw f5 daz ⊢
    refine ⟨w0, l5', _, _, rfl, rfl, at_off fw, at_off f6, (by rw [eL4]; show 5 ≤ sizeLine; decide), fun w5 n7 => ?_⟩
    have f7 := off_new (o := .lst (L4 ++ [.ref p5])) lv n7
    have lv := lv.put (o := .lst (L4 ++ [.ref p5])) n7
    have B := B.put (o := .lst (L4 ++ [.ref p5])) n7
    have sc := sc.trans (sm_put (S := [b]) (o := .lst (L4 ++ [.ref p5])) n7)
    have f3 := (sm_put (S := S) (o := .lst (L4 ++ [.ref p5])) n7) _ _ f3
    have f8 := (sm_put (S := S) (o := .lst (L4 ++ [.ref p5])) n7) _ _ f8
    have f9 := (sm_put (S := S) (o := .lst (L4 ++ [.ref p5])) n7) _ _ f9
    have g3 := (sm_put (S := S) (o := .lst (L4 ++ [.ref p5])) n7) _ _ g3
    have f5 := (sm_put (S := S) (o := .lst (L4 ++ [.ref p5])) n7) _ _ f5
    have daz := dpAll_same ((sm_put (S := S) (o := .lst (L4 ++ [.ref p5])) n7)) daz
    generalize upd Z7 w5 (.lst (L4 ++ [.ref p5])) = Z8 at f7 lv B sc f3 f8 f9 g3 f5 daz ⊢
    refine ⟨_, rfl, b, 5, _, rfl, (by decide), (by decide), B, by omega, fun Z t t0 t1 B4 s4 => ?_⟩
    have lv := lv.box B4.bx s4
    have sc := sc.trans s4
    have B := B4
    have f3 := (sm_one hb s4) _ _ f3
    have f8 := (sm_one hb s4) _ _ f8
    have f9 := (sm_one hb s4) _ _ f9
    have g3 := (sm_one hb s4) _ _ g3
    have f5 := (sm_one hb s4) _ _ f5
    have f7 := (sm_one hb s4) _ _ f7
    have daz := dpAll_same ((sm_one hb s4)) daz
    rw [eS] at f3 f8 f9 g3 f5 f7 daz
    have fin : ∀ (p : Addr) (xs : List V) (es : List PyData), atI (L4 ++ [V.ref p5]) t = some (.ref p) → off Z [b] p = some (.lst xs) → DpAll K (off Z [b]) xs es → Rws (m + 1) C D W (L + 1) es → ∃ (p : Addr) (xs : List V) (i : Int) (v : V), V.ref w5 = .ref p ∧ V.int t = .int i ∧ SqL K Z p xs ∧ atI xs i = some v ∧ Q v Z := fun p xs es ga fq dq rq => ⟨w5, _, t, _, rfl, rfl, SqL.of (at_off f7), ga, q _ p xs es (B.mono (by omega)) sc fq dq rq⟩
    show ∃ (p : Addr) (xs : List V) (i : Int) (v : V), V.ref w5 = .ref p ∧ V.int t = .int i ∧ SqL K Z p xs ∧ atI xs i = some v ∧ Q v Z
    have d5' := da5 _ daz
    have l5'' := dpAll_len d5'
    have h5 : t = 0 ∨ t = 1 ∨ t = 2 ∨ t = 3 ∨ t = 4 := by omega
    have mt : ∀ (k : Nat) (d : PyData), d ∈ ds.take k → d ∈ ds := fun k d h => List.mem_of_mem_take h
    have md : ∀ (k : Nat) (d : PyData), d ∈ ds.drop k → d ∈ ds := fun k d h => List.mem_of_mem_drop h
    rw [eL4] at fin
    rcases h5 with rfl | rfl | rfl | rfl | rfl
    · exact fin p3 _ _ rfl f3 (dpAll_app' (dpAll_take a daz) (dpAll_drop (a + 1) daz)) (rws_sub eb (fun d h => (List.mem_append.mp h).elim (mt _ d) (md _ d)) (by simp only [List.length_append, List.length_take, List.length_drop]; omega))
    · exact fin p8 _ _ rfl f8 (dpAll_app' (dpAll_app' (dpAll_take a daz) d5') (dpAll_drop a daz)) (rws_sub eb (fun d h => (List.mem_append.mp h).elim (fun h => (List.mem_append.mp h).elim (mt _ d) (m5 d)) (md _ d)) (by simp only [List.length_append, List.length_take, List.length_drop]; omega))
    · exact fin p9 _ _ rfl f9 (dpAll_rev daz) (rws_sub eb (fun d h => List.mem_reverse.mp h) (by rw [List.length_reverse]; omega))
    · exact fin q3 _ _ rfl g3 (dpAll_app' (dpAll_drop a daz) (dpAll_take a daz)) (rws_sub eb (fun d h => (List.mem_append.mp h).elim (md _ d) (mt _ d)) (by simp only [List.length_append, List.length_take, List.length_drop]; omega))
    · exact fin p5 _ (ds.take a ++ [.int u] ++ ds.drop a) rfl f5 (dpAll_app' (dpAll_app' (dpAll_take a daz) (.cons (.int _) .nil)) (dpAll_drop a daz)) ⟨fun d h => (List.mem_append.mp h).elim (fun h => (List.mem_append.mp h).elim (fun h => eb d (mt _ d h)) (fun h => by rw [List.mem_singleton.mp h]; exact bi (by omega))) (fun h => eb d (md _ d h)), by simp only [List.length_append, List.length_take, List.length_drop, List.length_singleton]; omega⟩

end
end Pot

namespace Pot
open PySem PySem.Spec PyProof.Rows L2
section
variable {P : Program} {w : World} {K : PySem.W.Frag} {mg : Str → Option Value} {base : Heap}
theorem fits_of {ps : List Pc} {sl : Nat} {ks : List Int} (pos : ∀ p, p < ps.length → cmF ps p < outF ps p) (pw : ks.Pairwise (· < ·)) (mem : ∀ k : Nat, (k : Int) ∈ ks ↔ k ∈ keptF ps sl) (nn : ∀ z ∈ ks, 0 ≤ z) : fitsD ps sl (intsD ks) = true := by
  obtain ⟨k1, k2, k3⟩ := kept_fit sl pos
  have at_ : ∀ z ∈ ks, z.toNat ∈ keptF ps sl := fun z hz => (mem z.toNat).mp (by rw [show ((z.toNat : Nat) : Int) = z by have := nn z hz; omega]; exact hz)
  have e0 : (ks.map PyData.int).map toI = ks := by
    rw [List.map_map]
    conv => rhs; rw [← List.map_id ks]
    exact List.map_congr_left fun _ _ => rfl
  have en : natsD (intsD ks) = ks.map Int.toNat := by
    show (ks.map PyData.int).map (fun d => (toI d).toNat) = _
    rw [List.map_map]
    exact List.map_congr_left fun _ _ => rfl
  unfold fitsD
  rw [Bool.and_eq_true, en]
  constructor
  · show ((ks.map PyData.int).all (numD 0 ((ps.length : Int) - 1)) && risI ((ks.map PyData.int).map toI)) = true
    rw [Bool.and_eq_true, e0]
    refine ⟨List.all_eq_true.mpr fun d hd => ?_, risI_pair.mpr pw⟩
    obtain ⟨z, hz, rfl⟩ := List.mem_map.mp hd
    have h1 := nn z hz
    have h2 := k2 _ (at_ z hz)
    show (decide (0 ≤ z) && decide (z ≤ (ps.length : Int) - 1)) = true
    rw [Bool.and_eq_true, decide_eq_true_eq, decide_eq_true_eq]
    omega
  · refine fitB_iff.mpr fun p hp => ?_
    refine Nat.le_trans ?_ (k3 (cmF ps p))
    rw [List.countP_eq_length_filter, List.countP_eq_length_filter]
    have nd : (ks.map Int.toNat).Nodup := List.pairwise_map.mpr (pw.imp_of_mem fun {a b} ha hb l => by
      have := nn a ha
      have := nn b hb
      omega)
    refine nodup_leG (nd.sublist List.filter_sublist) fun x hx => ?_
    obtain ⟨x1, x2⟩ := List.mem_filter.mp hx
    obtain ⟨z, hz, rfl⟩ := List.mem_map.mp x1
    exact List.mem_filter.mpr ⟨at_ z hz, x2⟩
theorem two_g (ks js : List Int) : ∃ m, gd m (.tuple [intsD ks, intsD js]) := by
  obtain ⟨m1, h1⟩ := ints_gd ks
  obtain ⟨m2, h2⟩ := ints_gd js
  exact ⟨m1 + m2, gdAll_mono (by omega) _ h1, gdAll_mono (by omega) _ h2, trivial⟩
theorem two_eqv (ks js : List Int) : PyData.eqv (.tuple [intsD ks, intsD js]) (.tuple [intsD ks, intsD js]) = true := by
  obtain ⟨m, h⟩ := two_g ks js
  exact SeqAt.eqv_refl _ (gd_lay _ h)
theorem two_shaped (ks js : List Int) : SeqAt.shaped (.tuple [intsD ks, intsD js]) = true := by
  obtain ⟨m, h⟩ := two_g ks js
  refine gd_shaped h ?_
  have h1 := ints_depth ks
  have h2 := ints_depth js
  show PyData.depthAll [intsD ks, intsD js] + 1 ≤ _
  have : PyData.depthAll [intsD ks, intsD js] ≤ 4 := depthAll_iff.mpr fun d hd => by
    rcases List.mem_cons.mp hd with z | z
    · rw [z]; exact Nat.le_of_lt h1
    · rw [List.mem_singleton.mp z]; exact Nat.le_of_lt h2
  exact Nat.le_trans (Nat.succ_le_succ this) (by decide)
theorem pcs_eqv {ps : List Pc} (h : ∀ p ∈ ps, 0 ≤ p.1 ∧ p.1 ≤ 1000000 ∧ 1 ≤ p.2 ∧ p.2 ≤ 99) : PyData.eqv (.list (ps.map pcD)) (.list (ps.map pcD)) = true := SeqAt.eqv_refl _ (gd_lay _ (pcs_gd h))
theorem fits_nil {ps : List Pc} {sl : Nat} : fitsD ps sl (.list []) = true := by
  unfold fitsD
  rw [show risD 0 ((ps.length : Int) - 1) (.list []) = true from rfl, show natsD (.list []) = [] from rfl, Bool.true_and]
  exact fitB_iff.mpr fun p hp => (List.not_mem_nil hp).elim
theorem rws_ints {ns : List Int} (h : ∀ i ∈ ns, i.natAbs ≤ 1000) (l : ns.length ≤ 40) : Rws 1000 2000 1 12 40 (ns.map PyData.int) := ⟨fun d hd => by
  obtain ⟨i, hi, rfl⟩ := List.mem_map.mp hd
  exact (bd_int (h i hi)).mono (Nat.le_refl _) (Nat.le_refl _) (by decide) (by decide) (by decide), by rw [List.length_map]; exact l⟩

abbrev s_law : Stmt := topS 27
def n_law : List Str := ["_law_script", "_law_k", "_law_state", "_law_pieces_here", "_law_slots_here", "_law_handed", "_law_good", "_law_fewer", "_law_everyone", "_law_turn", "_law_thing", "_law_many", "_law_seen", "_law_due", "_law_found", "_law_number"]
theorem sc_law : FnScope n_law ["_law_script"] (defScope s_law) := ⟨rfl, rfl, rfl, by decide +kernel, rfl, by decide +kernel, by decide +kernel⟩
def spLaw (K : PySem.W.Frag) (Pt Pk : Addr) : Sp := fun vs H Q _ => ∃ (a : Addr) (ns : List Int), vs = [.ref a] ∧ SqL K H a (ns.map V.int) ∧ ns.length ≤ 63 ∧ LamX.Tabs (TT Pt Pk) H ∧ ∀ H', Q (.bl true) H'
set_option maxHeartbeats 8000000 in
theorem ok_law {f Pt Pk : Addr} {fd : FuncData} {k : Nat} (F : Fun K "law" "law" s_law f fd) (T : Txt mg) (c__law_take : Cl P w K mg base (k + 1) "_law_take" spTake) (c__law_begin : Cl P w K mg base (k + 1) "_law_begin" (spBegin K)) (c__law_pieces : Cl P w K mg base (k + 2) "_law_pieces" (spPieces K)) (c__law_slots : Cl P w K mg base (k + 2) "_law_slots" (spLSl K)) (c_most_cooled : Cl P w K mg base (k + 5) "most_cooled" (spMC K Pt Pk)) (c_shows_cooled : Cl P w K mg base (k + 5) "shows_cooled" (spShow K)) (c__law_bent : Cl P w K mg base (k + 2) "_law_bent" (spBent K)) (c__law_odd : ClG P w K mg base (k + 2) "_law_odd" [] (spOdd K)) (c__law_fits : Cl P w K mg base (k + 3) "_law_fits" (spLFits K)) : FnG P w K mg base (k + 6) f fd ["_law_script"] (spLaw K Pt Pk) := by
  refine okG F sc_law (fun vs H Q E h => ?_) (fun cdv A outer s H vs Q gd hr h => ?_)
  · obtain ⟨a, ns, rfl, _⟩ := h
    rfl
  · obtain ⟨a, ns, rfl, hS, h63, tb0, q⟩ := h
    have nd := sc_law.nd
    have hu64 := hr.units
    /- 0 _law_script, 1 _law_k, 2 _law_state, 3 _law_pieces_here, 4 _law_slots_here, 5 _law_handed, 6 _law_good, 7 _law_fewer, 8 _law_everyone, 9 _law_turn, 10 _law_thing, 11 _law_many, 12 _law_seen, 13 _law_due, 14 _law_found, 15 _law_number -/
    refine ⟨_, (pss_cons (ps_for PassesOwn.never rfl (pi_range1 (by rfl) T.range (pa_cons (pe_op op_add pe_int (pe_callB (call_min2 rfl) (by rfl) T.min (by decide +kernel) (pa_cons pe_int (pa_cons (pe_callB (kc_len (K := K)) (by rfl) T.len PySem.boot_len (pa_cons (pv 0) pa_nil)) pa_nil)))) pa_nil)) (pg_name (i := 1) nd rfl (.inl rfl))
          (pss_cons (ps_set (i := 2) nd rfl (.inr rfl) (pe_cl c__law_begin hr (by omega) (by rfl) (pa_cons (pv 0) (pa_cons (pv 1) pa_nil))))
          (pss_cons (ps_set (i := 3) nd rfl (.inl rfl) (pe_cl c__law_pieces hr (by omega) (by rfl) (pa_cons (pv 2) (pa_cons pe_int pa_nil))))
          (pss_cons (ps_par (i := 4) (j := 5) rfl nd rfl rfl (by decide) rfl rfl (pa_cons (pe_cl c__law_slots hr (by omega) (by rfl) (pa_cons (pv 2) (pa_cons (pv 3) pa_nil))) (pa_cons (pe_callTy (kc_list (K := K)) (by rfl) T.list (by decide +kernel) (pa_cons (pv 3) pa_nil)) pa_nil)) rfl)
          (pss_cons (ps_set (i := 6) nd rfl (.inl rfl) (pe_ix (kx_tup (K := K)) (pe_cl c_most_cooled hr (by omega) (by rfl) (pa_cons (pv 3) (pa_cons (pv 4) pa_nil))) pe_int (fun _ _ => rfl)))
          (pss_cons (ps_if ((pw_or (pt_cmpR op_notBl (pe_cl c_shows_cooled hr (by omega) (by rfl) (pa_cons (pv 5) (pa_cons (pv 4) (pa_cons (pv 6) pa_nil)))) pe_bl (nomark _)) (pw_or1 (pt_cmpR op_notBl (pe_cl c_shows_cooled hr (by omega) (by rfl) (pa_cons (pv 5) (pa_cons (pv 4) (pa_cons (pe_lst pa_nil) pa_nil)))) pe_bl (nomark _))))).pt
              pss_never
              pss_nil)
          (pss_cons (ps_setLc (i := 7) (own := [("_law_number", 15)]) rfl nd rfl rfl (sw_true rfl rfl rfl (by decide +kernel)) (ki_list (K := K) (pv 6)) (blkOk_by (N := n_law) (sc := defScope s_law) (by decide +kernel)) (fun _ _ _ _ _ => (pg_name (i := 15) nd rfl (.inl rfl))) (fun _ _ _ _ _ => (pts_one (pt_cmpR op_gt (pe_cl c__law_take hr (by omega) (by rfl) (pa_cons (pv 2) (pa_cons pe_int pa_nil))) pe_int (nomark _)))) (fun _ _ _ _ _ => (pv 15)))
          (pss_cons (ps_set (i := 8) nd rfl (.inl rfl) (pe_listRg rfl (by rfl) T.list (prg_1 (by rfl) T.range (pe_callB (kc_len (K := K)) (by rfl) T.len PySem.boot_len (pa_cons (pv 3) pa_nil)))))
          (pss_one (ps_for PassesOwn.never rfl (pi_range1 (by rfl) T.range (pa_cons pe_int pa_nil)) (pg_name (i := 9) nd rfl (.inl rfl))
              (pss_cons (ps_set (i := 10) nd rfl (.inl rfl) (pe_cl c__law_bent hr (by omega) (by rfl) (pa_cons (pv 2) (pa_cons (pe_ix (kx_list (K := K)) (pe_lst (pa_cons (pv 6) (pa_cons (pv 6) (pa_cons (pv 7) (pa_cons (pv 8) pa_nil))))) (pe_cl c__law_take hr (by omega) (by rfl) (pa_cons (pv 2) (pa_cons pe_int pa_nil))) (fun _ _ => rfl)) (pa_cons (pe_callB (kc_len (K := K)) (by rfl) T.len PySem.boot_len (pa_cons (pv 3) pa_nil)) pa_nil)))))
              (pss_cons (ps_if (pt_cmpR op_eq (pe_cl c__law_take hr (by omega) (by rfl) (pa_cons (pv 2) (pa_cons pe_int pa_nil))) pe_int (nomark _))
                  (pss_one (ps_set (i := 10) nd rfl (.inl rfl) (pe_cl c__law_bent hr (by omega) (by rfl) (pa_cons (pv 2) (pa_cons (pv 10) (pa_cons (pe_callB (kc_len (K := K)) (by rfl) T.len PySem.boot_len (pa_cons (pv 3) pa_nil)) pa_nil))))))
                  pss_nil)
              (pss_cons (ps_if (pt_cmpR op_gt (pv 9) pe_int (nomark _))
                  (pss_one (ps_set (i := 10) nd rfl (.inl rfl) (pe_ix (kx_list (K := K)) (pe_lst (pa_cons (pe_clG c__law_odd hr gd (by omega) (by rfl) (pa_cons (pv 2) (pa_cons (pv 6) pa_nil))) (pa_cons (pe_callTy (kc_tuple (K := K)) (by rfl) T.tuple (by decide +kernel) (pa_cons (pv 10) pa_nil)) pa_nil))) (pe_op op_sub (pv 9) pe_int) (fun _ _ => rfl))))
                  pss_nil)
              (pss_cons (ps_set (i := 11) nd rfl (.inl rfl) (pe_callB (call_min2 rfl) (by rfl) T.min (by decide +kernel) (pa_cons pe_int (pa_cons (pe_callB (call_max2 rfl) (by rfl) T.max (by decide +kernel) (pa_cons pe_int (pa_cons (pe_op op_sub (pv 4) (pe_ix (kx_list (K := K)) (pe_lst (pa_cons pe_int (pa_cons pe_int (pa_cons pe_int (pa_cons (pe_un un_neg pe_int) pa_nil))))) (pe_cl c__law_take hr (by omega) (by rfl) (pa_cons (pv 2) (pa_cons pe_int pa_nil))) (fun _ _ => rfl))) pa_nil))) pa_nil))))
              (pss_cons (ps_par (i := 12) (j := 13) rfl nd rfl rfl (by decide) rfl rfl (pa_cons (pe_callB (kc_reprA (K := K) gd hu64) (by rfl) T.repr (by decide +kernel) (pa_cons (pv 10) pa_nil)) (pa_cons (pe_cl c__law_fits hr (by omega) (by rfl) (pa_cons (pv 3) (pa_cons (pv 11) (pa_cons (pv 10) pa_nil)))) pa_nil)) rfl)
              (pss_cons (ps_set (i := 14) nd rfl (.inl rfl) (pe_cl c_shows_cooled hr (by omega) (by rfl) (pa_cons (pv 5) (pa_cons (pv 11) (pa_cons (pv 10) pa_nil)))))
              (pss_one (ps_if ((pw_or (pt_not (pt_val (pe_callB (kc_isi (K := K)) (by rfl) T.isinstance (by decide +kernel) (pa_cons (pv 14) (pa_cons (pe_bltn (v := .ty "bool") (by rfl) T.bool (by decide +kernel) rfl) pa_nil))))) (pw_or (pt_cmpR op_ne (pv 14) (pv 13) (nomark _)) (pw_or (pt_cmpR op_ne (pe_callB (kc_reprA (K := K) gd hu64) (by rfl) T.repr (by decide +kernel) (pa_cons (pv 10) pa_nil)) (pv 12) (nomark _)) (pw_or1 (pt_cmpR (ko_ne (K := K) hu64) (pv 5) (pv 3) (nomark _))))))).pt
                  pss_never
                  pss_nil))))))))))))))))))
      (pss_one (ps_ret pe_bl))), ?_⟩
    refine ⟨_, rfl, _, _, rfl, .inl ⟨_, hS, rfl⟩, _, _, rfl, _, _, rfl, rfl, _, rfl, (by split <;> rw [List.length_map] at * <;> omega), (by split <;> rw [List.length_map] at * <;> omega), ?_⟩
    refine for_it walk_range (fun i σ H2 => ∃ v1 v2 v3 v4 v5 v6 v7 v8 v9 va vb vc vd ve vf, σ = [some (.ref a), v1, v2, v3, v4, v5, v6, v7, v8, v9, va, vb, vc, vd, ve, vf] ∧ LamX.ExtN H H2 ∧ LamX.Tabs (TT Pt Pk) H2) ⟨_, _, _, _, _, _, _, _, _, _, _, _, _, _, _, rfl, LamX.ExtN.refl _, tb0⟩ (fun _ _ _ _ _ => trivial) ?_ ?_
    · rintro i x σ H2 H3 hi ⟨v1, v2, v3, v4, v5, v6, v7, v8, v9, va, vb, vc, vd, ve, vf, rfl, x3, tb3⟩ ⟨rfl, rfl⟩
      have hi7 : i ≤ 63 := by
        have h2 : (1 + if ((List.map V.int ns).length : Int) < 5 then ((List.map V.int ns).length : Int) else 5) ≤ 7 := by split <;> omega
        omega
      refine ⟨_, rfl, _, rfl, a, ns, i, (by show [_, V.int (0 + (i : Int))] = _; rw [Int.zero_add]), RLam.sqL_ext hS x3, hi7, fun H4 b s4 B4 nb => ?_⟩
      refine ⟨_, rfl, b, 0, rfl, B4, by decide, fun H5 L xs ps B5 s5 nL hL da ok => ?_⟩
      have lx : xs.length = ps.length := dpAll_map_len da
      have l40 := ok.len
      have l60 : ps.length ≤ 60 := by omega
      have pos : ∀ p, p < ps.length → cmF ps p < outF ps p := fun p hp => by
        have := (ok.each (ps.getD p pc0) (by rw [List.getD_eq_getElem?_getD, List.getElem?_eq_getElem hp]; exact List.getElem_mem hp)).2.2.1
        unfold cmF outF
        omega
      have Lb : L ≠ b := by
        obtain ⟨_, _, _, e⟩ := B4.bx
        exact fun z => by rw [z, e] at nL; cases nL
      have fL : off H5 [b] L = some (.lst xs) := by rw [off_out (by simp [Lb])]; exact hL
      have da : DpAll K (off H5 [b]) xs (ps.map pcD) := dpAll_same (off_mono (by simp)) da
      have nb3 : H3 b = none := nb
      have bl4 : ∀ s ∈ [b], ∃ xs, H4 s = some (.lst xs) := fun s hs => by
        rw [List.mem_singleton.mp hs]
        obtain ⟨_, _, _, e⟩ := B4.bx
        exact ⟨_, e⟩
      have nbs : ∀ s ∈ [b], H3 s = none := fun s hs => by rw [List.mem_singleton.mp hs]; exact nb
      have x5 : LamX.ExtN H3 H5 := extN_sm (.of s4) s5 nbs
      have tb5 := tabs_sm bl4 s5 (tb3.ext s4)
      clear bl4 B4 s4 s5 nL nb hL
      have LB : ∀ {HX : Hp} {n : Nat}, Bq HX b n → ∀ s ∈ [b], ∃ xs, HX s = some (.lst xs) := fun B s hs => by
        rw [List.mem_singleton.mp hs]
        obtain ⟨_, _, _, e⟩ := B.bx
        exact ⟨_, e⟩
      refine ⟨_, rfl, _, rfl, b, L, _, xs, ps, rfl, B5, by omega, fL, da, l60, fun H6 sl B6 s6 sl60 => ⟨_, rfl, L, _, rfl, .inl (SqL.of (sm_at s6 (by simp [Lb]) (at_off fL))), fun Pp nP => ?_⟩⟩
      have x5 := extN_sm x5 s6 nbs
      have tb5 := tabs_sm (LB B5) s6 tb5
      have fL := s6 _ _ fL
      have da := dpAll_same s6 da
      have s1 := same_upd (o := .lst xs) nP
      have Pb : Pp ≠ b := B6.ne nP
      have hP : upd H6 Pp (.lst xs) Pp = some (.lst xs) := upd_same
      have fL := (sm_of (S := [b]) s1) _ _ fL
      have da := dpAll_same (sm_of (S := [b]) s1) da
      have x5 := x5.trans (.of s1)
      have tb5 := tb5.ext s1
      have B6 := B6.same s1
      generalize upd H6 Pp (.lst xs) = H7 at hP fL da x5 tb5 B6 ⊢
      have fP : off H7 [b] Pp = some (.lst xs) := by rw [off_out (by simp [Pb])]; exact hP
      have hP7 := hP
      clear s1 s6 nP hP B5
      refine ⟨_, _, rfl, ?_⟩
      simp only [List.set]
      refine ⟨_, rfl, _, rfl, L, xs, ps, sl, rfl, SqL.of (at_off fL), dpAll_same off_sub da, l60, pos, tb5, fun H8 t A M ks zs x8 tb8 ht hA hM AM fr pw mem nn len hz => ?_⟩
      have nt : ∀ {xs : List V} (ps : Array Value), HO.lst xs ≠ .tbl ps := fun ps z => by cases z
      have eB : ∃ bs, H7 b = some (.lst bs) := by
        obtain ⟨_, _, _, e⟩ := B6.bx
        exact ⟨_, e⟩
      obtain ⟨bs, eB⟩ := eB
      obtain ⟨bA, bM⟩ := fr _ _ eB nt
      obtain ⟨LA, LM⟩ := fr _ _ (at_off fL) nt
      obtain ⟨PA, PM⟩ := fr _ _ hP7 nt
      have fr3 : ∀ y u, H3 y = some u → (∀ ps, u ≠ .tbl ps) → y ≠ A ∧ y ≠ M := fun y u e n => fr _ _ (x5 _ _ e n) n
      have xo : ∀ {y : Addr} {zs : List V}, off H7 [b] y = some (.lst zs) → off H8 [b] y = some (.lst zs) := fun {y zs} e => by rw [off_out (off_mem e)]; exact x8 _ _ (at_off e) nt
      have fL := xo fL
      have fP := xo fP
      have da : DpAll K (off H8 [b]) xs (ps.map pcD) := pcs_ext (fun y o e n => by rw [off_out (off_mem e)]; exact x8 _ _ (at_off e) n) da
      have B8 : Bq H8 b (0 + 250 + 3) := by
        obtain ⟨x, y, z, e, e2⟩ := B6
        exact ⟨x, y, z, x8 _ _ e nt, e2⟩
      have tb : b ≠ t := fun e => by
        rw [← e, x8 _ _ eB nt] at ht; cases ht
      have fA : off H8 [b] A = some (.lst (ks.map V.int)) := by rw [off_out (by simp [bA.symm])]; exact hA
      have fM : off H8 [b] M = some (.lst ((scF ps sl zs).1.2.map V.int)) := by rw [off_out (by simp [bM.symm])]; exact hM
      have ft : off H8 [b] t = some (.tup [.ref A, .ref M]) := by rw [off_out (by simp [tb.symm])]; exact ht
      have x8 := x5.trans x8
      clear hA hM ht fr x5 tb5 B6 eB hP7 xo
      obtain ⟨b1, b2, b3⟩ := (sc_inv sl pos hz.1).best
      have hkept := sc_kept sl pos hz
      have hrs : ∀ z ∈ (scF ps sl zs).1.2, z ∈ ps.map (·.1) := fun z hz2 => (hz.2 z).mp (b2 z hz2)
      have hrl : (scF ps sl zs).1.2.length ≤ 60 := by
        have := nodup_le (l := ps.map (·.1)) (b1.imp fun h => by omega) hrs
        rw [List.length_map] at this
        omega
      obtain ⟨kf1, kf2, kf3⟩ := kept_fit sl pos
      have kl : (keptF ps sl).length ≤ 40 := by
        have := nodup_leG (l := keptF ps sl) (ts := List.range ps.length) kf1 fun x hx => List.mem_range.mpr (kf2 x hx)
        rw [List.length_range] at this
        omega
      generalize hsc : (scF ps sl zs).1.2 = hrsL at fM b1 hkept hrs hrl
      clear b2 b3
      have hfit := fits_of pos pw mem nn
      have ht8 := at_off ft
      have hA8 := at_off fA
      have hM8 := at_off fM
      have dA : Dp K H8 (.ref A) (intsD ks) := .lst (SqL.of hA8) (dp_ints _)
      have lks : ks.length ≤ 40 := by omega
      have ks40 : ∀ z ∈ ks, 0 ≤ z ∧ z ≤ 40 := fun z hz => by
        have h0 := nn z hz
        have := kf2 z.toNat ((mem z.toNat).mp (by rw [Int.toNat_of_nonneg h0]; exact hz))
        omega
      simp only [gName, List.set]
      refine ⟨t, _, 0, _, rfl, rfl, .inl (.inl ht8), rfl, ?_⟩
      simp only [gName, List.set]
      have tbG := tb8
      have B9 : Bq H8 b 260 := B8.mono (by decide)
      clear hsc hkept hrs hrl b1 fM hM8 ft ht8 tb bM LM PM AM tb8 B8 kf1 kf2 kf3
      refine seq_mid (fun σ Hx => σ = [some (.ref a), some (.int (0 + (i : Int))), some (.ref b), some (.ref L), some (.int (sl : Nat)), some (.ref Pp), some (.ref A), v7, v8, v9, va, vb, vc, vd, ve, vf] ∧ Same H8 Hx) (fun N hN => ?_) (fun σ Hx h => ?_)
      · refine ⟨_, rfl, _, rfl, _, rfl, Pp, xs, ps, sl, .ref A, intsD ks, rfl, SqL.of (at_off fP), dpAll_same off_sub da, l60, dA, Nat.le_trans (ints_wid (by omega)) (by decide), fun H9 s9 => ?_⟩
        rw [hfit]
        refine ⟨_, _, rfl, rfl, _, rfl, iteF ?_⟩
        refine ⟨_, rfl, _, rfl, Nat.zero_le _, fun l nl => ?_⟩
        have s10 := s9.trans (same_upd (o := .lst []) nl)
        have e10 : upd H9 l (.lst []) l = some (.lst []) := upd_same
        generalize upd H9 l (.lst []) = H10 at s10 e10 ⊢
        refine ⟨Pp, xs, ps, sl, _, .list [], rfl, SqL.of (s10 _ _ (at_off fP)), dpAll_same (off_sub.trans s10) da, l60, .lst (SqL.of e10) .nil, by decide, fun H11 s11 => ?_⟩
        rw [fits_nil]
        exact ⟨_, _, rfl, rfl, _, rfl, iteF (hN _ _ ⟨rfl, s10.trans s11⟩)⟩
      obtain ⟨rfl, sx⟩ := h
      have fL := sm_of (S := [b]) sx _ _ fL
      have fP := sm_of (S := [b]) sx _ _ fP
      have fA := sm_of (S := [b]) sx _ _ fA
      have da := dpAll_same (sm_of (S := [b]) sx) da
      have B := B9.same sx
      have x8 := x8.trans (.of sx)
      have tbG := tbG.ext sx
      clear sx B9 hA8 dA
      -- fewer
      refine ⟨_, rfl, A, rfl, ⟨_, SqL.of (at_off fA)⟩, fun C nC => ?_⟩
      have Cb : C ≠ b := B.ne nC
      have Ac : A ≠ C := ne_of_none (at_off fA) nC
      refine lc_it (walk_list (xs := ks.map V.int)) (fun m Hz => ∃ us : List Int, Hz C = some (.lst (us.map V.int)) ∧ us.length ≤ m ∧ (∀ u ∈ us, u ∈ ks) ∧ Sm [b, C] Hx Hz ∧ Bq Hz b (260 + m)) ⟨[], upd_same, Nat.le_refl _, (fun u h => (List.not_mem_nil h).elim), sm_wr (by simp), B.same (same_upd nC)⟩ (fun m Hz _ h => by
        obtain ⟨_, _, _, _, h, _⟩ := h
        exact SqL.of (sm_at h (by simp [bA.symm, Ac]) (at_off fA))) ?_ ?_
      · rintro m y Hz Hw hm ⟨us, hC, lu, bu, sx, Bx⟩ ⟨rfl, gy⟩
        rw [List.getElem?_map] at gy
        obtain ⟨z, gz, rfl⟩ := Option.map_eq_some_iff.mp gy
        rw [List.length_map] at hm
        refine ⟨rfl, _, rfl, b, 3, _, rfl, (by decide), (by decide), Bx, by omega, fun H4 r r0 r1 B4 s4 => ⟨_, _, rfl, rfl, _, rfl, ?_⟩⟩
        have hC4 := sm_at s4 (by simp [Cb]) hC
        have s4' := sx.trans (sm_one (S := [b, C]) (by simp) s4)
        refine ite2 (fun _ => ?_) (fun _ => ⟨us, hC4, by omega, bu, s4', B4.mono (by omega)⟩)
        refine ⟨_, rfl, us.map V.int, hC4, by rw [List.length_map, sizeLine_eq]; omega, us ++ [z], by rw [upd_same, List.map_append]; rfl, by rw [List.length_append]; show _ + 1 ≤ _; omega, fun u hu => ?_, s4'.trans (sm_wr (by simp)), (B4.wr Cb).mono (by omega)⟩
        rcases List.mem_append.mp hu with h | h
        · exact bu u h
        · rw [List.mem_singleton.mp h]; exact List.mem_of_getElem? gz
      rintro Hy ⟨us, hC, lu, bu, sy, By⟩
      rw [List.length_map] at lu By
      have sK : Sm [b] Hx Hy := fun y o e => by
        have yC : y ≠ C := ne_of_none (at_off e) nC
        have yb : y ≠ b := fun q => off_mem e (by rw [q]; exact List.mem_cons_self)
        rw [off_out (by simp [yb])]
        exact sm_at sy (by simp [yb, yC]) (at_off e)
      have fC : off Hy [b] C = some (.lst (us.map V.int)) := by rw [off_out (by simp [Cb])]; exact hC
      have fL := sK _ _ fL
      have fP := sK _ _ fP
      have fA := sK _ _ fA
      have da := dpAll_same sK da
      have x8 := extN_sm x8 sK nbs
      have tbG := tabs_sm (LB B) sK tbG
      clear sK sy nC hC B
      simp only [gName, List.set]
      refine ⟨_, rfl, _, _, rfl, .inl ⟨_, SqL.of (at_off fL), rfl⟩, _, rfl, .of_le (by omega) (by omega) (by omega) (by omega), fun E nE => ?_⟩
      have fE : off (upd Hy E (.lst (rgV 0 (xs.length : Int)))) [b] E = some (.lst (((List.range ps.length).map fun i => ((i : Nat) : Int)).map V.int)) := by
        rw [off_out (by simp [By.ne nE]), upd_same, lx, rgV_range]
      have sE := same_upd (o := .lst (rgV 0 (xs.length : Int))) nE
      generalize upd Hy E (.lst (rgV 0 (xs.length : Int))) = HE at fE sE ⊢
      have so := sm_of (S := [b]) sE
      have fL := so _ _ fL
      have fP := so _ _ fP
      have fA := so _ _ fA
      have fC := so _ _ fC
      have da := dpAll_same so da
      have x8 := x8.trans (.of sE)
      have tbG := tbG.ext sE
      have B := (By.same sE).mono (show 260 + ks.length ≤ 300 by omega)
      clear so sE nE By Cb Ac
      simp only [gName, List.set]
      obtain ⟨es, ees⟩ : ∃ es, es = (List.range ps.length).map fun i => ((i : Nat) : Int) := ⟨_, rfl⟩
      rw [← ees] at fE
      have rA := rws_ints (ns := ks) (fun z hz => by have := ks40 z hz; omega) lks
      have rC := rws_ints (ns := us) (fun z hz => by have := ks40 z (bu z hz); omega) (by omega)
      have rE := rws_ints (ns := es) (fun z hz => by
        rw [ees] at hz
        obtain ⟨n, hn, rfl⟩ := List.mem_map.mp hz
        have := List.mem_range.mp hn
        omega) (by rw [ees, List.length_map, List.length_range]; exact l40)
      refine ⟨_, rfl, (by decide), (by decide), ?_⟩
      refine for_it walk_range (fun j σ Hy => ∃ v9 va vb vc vd ve vf, σ = [some (.ref a), some (.int (0 + (i : Int))), some (.ref b), some (.ref L), some (.int (sl : Nat)), some (.ref Pp), some (.ref A), some (.ref C), some (.ref E), v9, va, vb, vc, vd, ve, vf] ∧ Sm [b] HE Hy ∧ Bq Hy b (300 + 40 * j)) ⟨_, _, _, _, _, _, _, rfl, Same.refl _, B.mono (by omega)⟩ (fun _ _ _ _ _ => trivial) ?_ ?_
      · rintro j x σ Hy Hz hj ⟨v9, va, vb, vc, vd, ve, vf, rfl, sy, By⟩ ⟨rfl, rfl⟩
        have hj12 : j < 12 := by omega
        simp only [gName, List.set]
        have fL := sy _ _ fL
        have fP := sy _ _ fP
        have fA := sy _ _ fA
        have fC := sy _ _ fC
        have fE := sy _ _ fE
        have da := dpAll_same sy da
        have B := By
        refine ⟨_, rfl, _, rfl, _, rfl, _, rfl, _, rfl, (by show 4 ≤ sizeLine; decide), fun l nl => ?_⟩
        have so := sm_put (S := [b]) (o := .lst [.ref A, .ref A, .ref C, .ref E]) nl
        have fl := off_new (o := .lst [.ref A, .ref A, .ref C, .ref E]) (Live.q B) nl
        have fL := so _ _ fL
        have fP := so _ _ fP
        have fA := so _ _ fA
        have fC := so _ _ fC
        have fE := so _ _ fE
        have da := dpAll_same so da
        have sy := sy.trans so
        have B := B.put (o := .lst [.ref A, .ref A, .ref C, .ref E]) nl
        generalize upd Hz l (.lst [.ref A, .ref A, .ref C, .ref E]) = H2 at fl fL fP fA fC fE da sy B ⊢
        clear so nl
        refine ⟨_, rfl, b, 4, _, rfl, (by decide), (by decide), B, by omega, fun H3 z z0 z1 B2 s2 => ?_⟩
        have fl := s2 _ _ fl
        have fL := s2 _ _ fL
        have fP := s2 _ _ fP
        have fA := s2 _ _ fA
        have fC := s2 _ _ fC
        have fE := s2 _ _ fE
        have da := dpAll_same s2 da
        have sy := sy.trans s2
        have B := B2
        obtain ⟨Z, us', es', gz, fZ, daZ, rZ⟩ : ∃ Z us' es', atI [V.ref A, .ref A, .ref C, V.ref E] z = some (.ref Z) ∧ off H3 [b] Z = some (.lst us') ∧ DpAll K (off H3 [b]) us' es' ∧ Rws 1000 2000 1 12 40 es' := by
          have h : z = 0 ∨ z = 1 ∨ z = 2 ∨ z = 3 := by omega
          rcases h with rfl | rfl | rfl | rfl
          · exact ⟨A, _, _, rfl, fA, dp_ints _, rA⟩
          · exact ⟨A, _, _, rfl, fA, dp_ints _, rA⟩
          · exact ⟨C, _, _, rfl, fC, dp_ints _, rC⟩
          · exact ⟨E, _, _, rfl, fE, dp_ints _, rE⟩
        refine ⟨l, _, z, _, rfl, rfl, SqL.of (at_off fl), gz, _, rfl, _, _, rfl, .inl ⟨_, SqL.of (at_off fL), rfl⟩, b, Z, _, 1000, 2000, 1, 12, 40, ps.length, us', es', (by rw [lx]; rfl), B, by omega, fZ, daZ, rZ, by decide, by decide, by decide, by decide, by decide, by decide, by decide, l60, fun H4 R' zs' ds' B4 s4 fR dR rR => ?_⟩
        clear fZ daZ rZ gz fl
        simp only [gName, List.set]
        have fL := s4 _ _ fL
        have fP := s4 _ _ fP
        have fA := s4 _ _ fA
        have da := dpAll_same s4 da
        have sy := sy.trans s4
        clear fE fC s4 s2 B B2 By
        refine seq_mid (fun σ Hx => ∃ (R' : Addr) (zs' : List V) (ds' : List PyData), σ = [some (.ref a), some (.int (0 + (i : Int))), some (.ref b), some (.ref L), some (.int (sl : Nat)), some (.ref Pp), some (.ref A), some (.ref C), some (.ref E), some (.int (0 + (j : Int))), some (.ref R'), vb, vc, vd, ve, vf] ∧ Sm [b] H4 Hx ∧ Bq Hx b (300 + 40 * j + 22) ∧ off Hx [b] R' = some (.lst zs') ∧ DpAll K (off Hx [b]) zs' ds' ∧ Rws 1002 2000 1 12 42 ds') (fun N hN => ?_) (fun σ Hx h => ?_)
        · refine ⟨_, rfl, b, 3, _, rfl, (by decide), (by decide), B4, by omega, fun H5 z z0 z1 B5 s5 => ?_⟩
          refine ⟨rfl, _, rfl, ite2 (fun _ => ?_) (fun _ => hN _ _ ⟨R', zs', ds', rfl, s5, B5.mono (by omega), s5 _ _ fR, dpAll_same s5 dR, rR.mono (by decide) (by decide) (by decide) (by decide) (by decide)⟩)⟩
          refine ⟨_, rfl, _, rfl, _, rfl, _, _, rfl, .inl ⟨_, SqL.of (at_off (s5 _ _ fL)), rfl⟩, b, R', _, _, _, _, _, _, ps.length, zs', ds', (by rw [lx]; rfl), B5, by omega, s5 _ _ fR, dpAll_same s5 dR, rR, by decide, by decide, by decide, by decide, by decide, by decide, by decide, l60, fun H6 R2 zs2 ds2 B6 s6 f6 d6 r6 => ?_⟩
          exact hN _ _ ⟨R2, zs2, ds2, rfl, s5.trans s6, B6.mono (by omega), f6, d6, r6⟩
        clear fR dR rR B4
        obtain ⟨R', zs', ds', rfl, s1, B, fR, dR, rR⟩ := h
        have fL := s1 _ _ fL
        have fP := s1 _ _ fP
        have fA := s1 _ _ fA
        have da := dpAll_same s1 da
        have sy := sy.trans s1
        clear s1
        have finL := rR.fin (by decide) (by decide) (by decide) (by decide) (by decide)
        refine seq_mid (fun σ Hw => ∃ (v : V) (d : PyData), σ = [some (.ref a), some (.int (0 + (i : Int))), some (.ref b), some (.ref L), some (.int (sl : Nat)), some (.ref Pp), some (.ref A), some (.ref C), some (.ref E), some (.int (0 + (j : Int))), some v, vb, vc, vd, ve, vf] ∧ Sm [b] Hx Hw ∧ Bq Hw b (300 + 40 * j + 24) ∧ Dp K (off Hw [b]) v d ∧ FinD d) (fun N hN => ?_) (fun σ Hw h => ?_)
        · refine ⟨_, rfl, _, _, rfl, rfl, _, rfl, ite2 (fun h9 => ?_) (fun _ => hN _ _ ⟨.ref R', .list ds', rfl, Same.refl _, B.mono (by omega), .lst (SqL.of fR) dR, finL.1⟩)⟩
          have h9 := of_decide_eq_true h9
          have shn := ints_shown (ns := ks) fun z hz => by have := ks40 z hz; omega
          refine ⟨_, rfl, _, rfl, b, A, _, ks.map V.int, ks.map PyData.int, rfl, B, by omega, fA, dp_ints _, rA.bds.mono (Nat.le_refl _) (by decide) (by decide) (by decide) (by decide), (by rw [List.length_map]; omega), Nat.le_trans shn.1 (by omega), shn.2, fun H2 v2 d2 B2 s2 dp2 fin2 => ?_⟩
          refine ⟨_, rfl, R', zs', rfl, .inl ⟨SqL.of (at_off (s2 _ _ fR)), fun tp ntp => ?_⟩⟩
          have so := sm_put (S := [b]) (o := .tup zs') ntp
          have ft := off_new (o := .tup zs') (Live.q B2) ntp
          have dp2 := dp_same so dp2
          have dR2 := dpAll_same (s2.trans so) dR
          have B2 := B2.put (o := .tup zs') ntp
          have s2 := s2.trans so
          generalize upd H2 tp (.tup zs') = H5 at ft dp2 dR2 B2 s2 ⊢
          refine ⟨(by show 2 ≤ sizeLine; decide), fun l nl => ?_⟩
          have so := sm_put (S := [b]) (o := .lst [v2, .ref tp]) nl
          have fl := off_new (o := .lst [v2, .ref tp]) (Live.q B2) nl
          have dp2 := dp_same so dp2
          have dR2 := dpAll_same so dR2
          have ft := so _ _ ft
          have B2 := B2.put (o := .lst [v2, .ref tp]) nl
          have s2 := s2.trans so
          generalize upd H5 l (.lst [v2, .ref tp]) = H6 at fl ft dp2 dR2 B2 s2 ⊢
          refine ⟨_, rfl, _, _, rfl, rfl, ?_⟩
          have hj : j = 10 ∨ j = 11 := by omega
          rcases hj with rfl | rfl
          · refine ⟨l, _, 0, v2, rfl, rfl, SqL.of (at_off fl), rfl, ?_⟩
            exact hN _ _ ⟨v2, d2, rfl, s2, B2.mono (by omega), dp2, fin2⟩
          · refine ⟨l, _, 1, .ref tp, rfl, rfl, SqL.of (at_off fl), rfl, ?_⟩
            exact hN _ _ ⟨.ref tp, .tuple ds', rfl, s2, B2.mono (by omega), .tup (.inl (.inl ft)) dR2, finL.2⟩
        clear fR dR rR B finL
        obtain ⟨v, d, rfl, s1, B, dp, fin⟩ := h
        have fL := s1 _ _ fL
        have fP := s1 _ _ fP
        have fA := s1 _ _ fA
        have da := dpAll_same s1 da
        have sy := sy.trans s1
        clear s1
        -- so many slots
        refine ⟨_, rfl, _, rfl, (by show 4 ≤ sizeLine; decide), fun l nl => ?_⟩
        have so := sm_put (S := [b]) (o := .lst [.int 0, .int 0, .int 1, .int (-1)]) nl
        have fl := off_new (o := .lst [.int 0, .int 0, .int 1, .int (-1)]) (Live.q B) nl
        have fL := so _ _ fL
        have fP := so _ _ fP
        have fA := so _ _ fA
        have da := dpAll_same so da
        have sy := sy.trans so
        have dp := dp_same so dp
        have B := B.put (o := .lst [.int 0, .int 0, .int 1, .int (-1)]) nl
        generalize upd Hw l (.lst [.int 0, .int 0, .int 1, .int (-1)]) = H2 at fl fL fP fA da sy dp B ⊢
        clear so nl
        refine ⟨_, rfl, b, 4, _, rfl, (by decide), (by decide), B, by omega, fun H3 z z0 z1 B2 s2 => ?_⟩
        have fl := s2 _ _ fl
        have fL := s2 _ _ fL
        have fP := s2 _ _ fP
        have fA := s2 _ _ fA
        have da := dpAll_same s2 da
        have sy := sy.trans s2
        have dp := dp_same s2 dp
        obtain ⟨u, gu⟩ : ∃ u : Int, atI [V.int 0, .int 0, .int 1, .int (-1)] z = some (.int u) := by
          have h : z = 0 ∨ z = 1 ∨ z = 2 ∨ z = 3 := by omega
          rcases h with rfl | rfl | rfl | rfl
          · exact ⟨_, rfl⟩
          · exact ⟨_, rfl⟩
          · exact ⟨_, rfl⟩
          · exact ⟨_, rfl⟩
        refine ⟨l, _, z, _, rfl, rfl, SqL.of (at_off fl), gu, _, _, rfl, rfl, _, _, rfl, _, _, rfl, ?_⟩
        simp only [gName, List.set]
        obtain ⟨mn, emn, mn60⟩ : ∃ mn : Nat, (if (if ((sl : Nat) : Int) - u > 0 then ((sl : Nat) : Int) - u else 0) < 60 then (if ((sl : Nat) : Int) - u > 0 then ((sl : Nat) : Int) - u else 0) else 60) = ((mn : Nat) : Int) ∧ mn ≤ 60 := by
          refine ⟨(if (if ((sl : Nat) : Int) - u > 0 then ((sl : Nat) : Int) - u else 0) < 60 then (if ((sl : Nat) : Int) - u > 0 then ((sl : Nat) : Int) - u else 0) else 60).toNat, ?_, ?_⟩ <;> split <;> split <;> omega
        rw [emn]
        have hL := at_off fL
        have hP := at_off fP
        have da3 := dpAll_same off_sub da
        have dp := dp_off dp
        refine ⟨_, rfl, v, d, rfl, dp, fin.fi, fin.de, fin.co, ?_⟩
        refine ⟨_, rfl, _, rfl, _, rfl, L, xs, ps, mn, v, d, rfl, SqL.of hL, da3, l60, dp, fin.wi, fun H4 s4 => ?_⟩
        refine ⟨_, _, rfl, ?_⟩
        have dp4 := dp_same s4 dp
        refine ⟨_, rfl, _, rfl, _, rfl, Pp, xs, ps, mn, v, d, rfl, SqL.of (s4 _ _ hP), dpAll_same s4 da3, l60, dp4, fin.wi, fun H5 s5 => ?_⟩
        have dp5 := dp_same s5 dp4
        have s45 := s4.trans s5
        have dpb : Dp K H5 (.bl (fitsD ps mn d)) (.bool (fitsD ps mn d)) := .bl _
        simp only [gName, List.set]
        refine ⟨_, rfl, _, .ty _, _, _, isBoolD _, rfl, .ty _, tyx_dp dpb, kit_bool dpb, _, rfl, iteF ?_⟩
        refine ⟨_, rfl, _, rfl, rfl, _, rfl, iteNS rfl ?_⟩
        refine ⟨_, rfl, v, d, rfl, dp5, fin.fi, fin.de, fin.co, _, rfl, rfl, _, rfl, iteNS rfl ?_⟩
        refine ⟨_, rfl, _, rfl, .list (ps.map pcD), .list (ps.map pcD), .lst (SqL.of (s45 _ _ hP)) (dpAll_same s45 da3), .lst (SqL.of (s45 _ _ hL)) (dpAll_same s45 da3), pcs_shaped ok.each, pcs_shaped ok.each, _, rfl, ?_⟩
        rw [pcs_eqv ok.each]
        exact iteF ⟨_, _, _, _, _, _, _, rfl, sy.trans (sm_of s45), (B2.same s45).mono (by omega)⟩
      · rintro σ Hy ⟨v9, va, vb, vc, vd, ve, vf, rfl, sy, By⟩
        exact ⟨_, _, _, _, _, _, _, _, _, _, _, _, _, _, _, rfl, x3.trans (extN_sm x8 sy nbs), tabs_sm (LB B) sy tbG⟩
    · rintro σ H2 ⟨v1, v2, v3, v4, v5, v6, v7, v8, v9, va, vb, vc, vd, ve, vf, rfl, _, _⟩
      exact q _

end
end Pot

namespace Pot
open PySem PySem.Spec PyProof.Rows L2
set_option maxHeartbeats 4000000 in
theorem all_mk {l : PySem.W.OpenLaw} {w : World} {K : PySem.W.Frag} {h : Heap} {mg : Str → Option Value} {fa : Addr} (X : K.In h) (G : h.Ns mainGlobals mg) (hfa : mg "law" = some (.ref fa))
    {f1 : Addr} {od1 an1 : Option Addr} {sl1 : Array (Option Value)} {oc1 kV1 dc1 pm1 cd1 ct1 : Value}
    {f2 : Addr} {od2 an2 : Option Addr} {sl2 : Array (Option Value)} {oc2 kV2 dc2 pm2 cd2 ct2 : Value}
    {f3 : Addr} {od3 an3 : Option Addr} {sl3 : Array (Option Value)} {oc3 kV3 dc3 pm3 cd3 ct3 : Value}
    {f4 : Addr} {od4 an4 : Option Addr} {sl4 : Array (Option Value)} {oc4 kV4 dc4 pm4 cd4 ct4 : Value}
    {f5 : Addr} {od5 an5 : Option Addr} {sl5 : Array (Option Value)} {oc5 kV5 dc5 pm5 cd5 ct5 : Value}
    {f6 : Addr} {od6 an6 : Option Addr} {sl6 : Array (Option Value)} {oc6 kV6 dc6 pm6 cd6 ct6 : Value}
    {f7 : Addr} {od7 an7 : Option Addr} {sl7 : Array (Option Value)} {oc7 kV7 dc7 pm7 cd7 ct7 : Value}
    {f8 : Addr} {od8 an8 : Option Addr} {sl8 : Array (Option Value)} {oc8 kV8 dc8 pm8 cd8 ct8 : Value}
    {f9 cT9 pT9 : Addr} {od9 an9 oe9 : Option Addr} {sl9 sm9 : Array (Option Value)} {vT9 : Array Value} {oc9 kV9 dc9 pm9 ct9 of9 : Value}
    {f10 : Addr} {od10 an10 : Option Addr} {sl10 : Array (Option Value)} {oc10 kV10 dc10 pm10 cd10 ct10 : Value}
    {f11 cT11 pT11 : Addr} {od11 an11 oe11 : Option Addr} {sl11 sm11 : Array (Option Value)} {vT11 : Array Value} {oc11 kV11 dc11 pm11 ct11 of11 : Value}
    {f12 : Addr} {od12 an12 : Option Addr} {sl12 : Array (Option Value)} {oc12 kV12 dc12 pm12 cd12 ct12 : Value}
    {f13 : Addr} {od13 an13 : Option Addr} {sl13 : Array (Option Value)} {oc13 kV13 dc13 pm13 cd13 ct13 : Value}
    {f14 : Addr} {od14 an14 : Option Addr} {sl14 : Array (Option Value)} {oc14 kV14 dc14 pm14 cd14 ct14 : Value}
    {f15 : Addr} {od15 an15 : Option Addr} {sl15 : Array (Option Value)} {oc15 kV15 dc15 pm15 cd15 ct15 : Value}
    {f16 : Addr} {od16 an16 : Option Addr} {sl16 : Array (Option Value)} {oc16 kV16 dc16 pm16 cd16 ct16 : Value}
    {f17 : Addr} {od17 an17 : Option Addr} {sl17 : Array (Option Value)} {oc17 kV17 dc17 pm17 cd17 ct17 : Value}
    {f18 : Addr} {od18 an18 : Option Addr} {sl18 : Array (Option Value)} {oc18 kV18 dc18 pm18 cd18 ct18 : Value}
    {f19 : Addr} {od19 an19 : Option Addr} {sl19 : Array (Option Value)} {oc19 kV19 dc19 pm19 cd19 ct19 : Value}
    {f20 : Addr} {od20 an20 : Option Addr} {sl20 : Array (Option Value)} {oc20 kV20 dc20 pm20 cd20 ct20 : Value}
    {f21 : Addr} {od21 an21 : Option Addr} {sl21 : Array (Option Value)} {oc21 kV21 dc21 pm21 cd21 ct21 : Value}
    {f22 : Addr} {od22 an22 : Option Addr} {sl22 : Array (Option Value)} {oc22 kV22 dc22 pm22 cd22 ct22 : Value}
    {f23 : Addr} {od23 an23 : Option Addr} {sl23 : Array (Option Value)} {oc23 kV23 dc23 pm23 cd23 ct23 : Value}
    {f24 : Addr} {od24 an24 : Option Addr} {sl24 : Array (Option Value)} {oc24 kV24 dc24 pm24 cd24 ct24 : Value}
    {f25 : Addr} {od25 an25 : Option Addr} {sl25 : Array (Option Value)} {oc25 kV25 dc25 pm25 cd25 ct25 : Value}
    (a1 : PySem.W.nsIn K mainGlobals "is_number" = some (some (.ref f1))) (l1 : K.lookup f1 = some ⟨oc1, od1, .func (PySem.W.fnOf "is_number" "is_number" (defArgs s_is_number) (defBody s_is_number) (defScope s_is_number) .none kV1 dc1 pm1 an1 cd1 ct1), sl1⟩) (c1 : PySem.W.codeIn K cd1 "is_number" = true) (k1 : PySem.W.keepIn K (.ref f1) = true)
    (a2 : PySem.W.nsIn K mainGlobals "is_rising" = some (some (.ref f2))) (l2 : K.lookup f2 = some ⟨oc2, od2, .func (PySem.W.fnOf "is_rising" "is_rising" (defArgs s_is_rising) (defBody s_is_rising) (defScope s_is_rising) .none kV2 dc2 pm2 an2 cd2 ct2), sl2⟩) (c2 : PySem.W.codeIn K cd2 "is_rising" = true) (k2 : PySem.W.keepIn K (.ref f2) = true)
    (a3 : PySem.W.nsIn K mainGlobals "are_rising" = some (some (.ref f3))) (l3 : K.lookup f3 = some ⟨oc3, od3, .func (PySem.W.fnOf "are_rising" "are_rising" (defArgs s_are_rising) (defBody s_are_rising) (defScope s_are_rising) .none kV3 dc3 pm3 an3 cd3 ct3), sl3⟩) (c3 : PySem.W.codeIn K cd3 "are_rising" = true) (k3 : PySem.W.keepIn K (.ref f3) = true)
    (a4 : PySem.W.nsIn K mainGlobals "in_at" = some (some (.ref f4))) (l4 : K.lookup f4 = some ⟨oc4, od4, .func (PySem.W.fnOf "in_at" "in_at" (defArgs s_in_at) (defBody s_in_at) (defScope s_in_at) .none kV4 dc4 pm4 an4 cd4 ct4), sl4⟩) (c4 : PySem.W.codeIn K cd4 "in_at" = true) (k4 : PySem.W.keepIn K (.ref f4) = true)
    (a5 : PySem.W.nsIn K mainGlobals "is_in" = some (some (.ref f5))) (l5 : K.lookup f5 = some ⟨oc5, od5, .func (PySem.W.fnOf "is_in" "is_in" (defArgs s_is_in) (defBody s_is_in) (defScope s_is_in) .none kV5 dc5 pm5 an5 cd5 ct5), sl5⟩) (c5 : PySem.W.codeIn K cd5 "is_in" = true) (k5 : PySem.W.keepIn K (.ref f5) = true)
    (a6 : PySem.W.nsIn K mainGlobals "out_at" = some (some (.ref f6))) (l6 : K.lookup f6 = some ⟨oc6, od6, .func (PySem.W.fnOf "out_at" "out_at" (defArgs s_out_at) (defBody s_out_at) (defScope s_out_at) .none kV6 dc6 pm6 an6 cd6 ct6), sl6⟩) (c6 : PySem.W.codeIn K cd6 "out_at" = true) (k6 : PySem.W.keepIn K (.ref f6) = true)
    (a7 : PySem.W.nsIn K mainGlobals "most_in" = some (some (.ref f7))) (l7 : K.lookup f7 = some ⟨oc7, od7, .func (PySem.W.fnOf "most_in" "most_in" (defArgs s_most_in) (defBody s_most_in) (defScope s_most_in) .none kV7 dc7 pm7 an7 cd7 ct7), sl7⟩) (c7 : PySem.W.codeIn K cd7 "most_in" = true) (k7 : PySem.W.keepIn K (.ref f7) = true)
    (a8 : PySem.W.nsIn K mainGlobals "hours_of_coming" = some (some (.ref f8))) (l8 : K.lookup f8 = some ⟨oc8, od8, .func (PySem.W.fnOf "hours_of_coming" "hours_of_coming" (defArgs s_hours_of_coming) (defBody s_hours_of_coming) (defScope s_hours_of_coming) .none kV8 dc8 pm8 an8 cd8 ct8), sl8⟩) (c8 : PySem.W.codeIn K cd8 "hours_of_coming" = true) (k8 : PySem.W.keepIn K (.ref f8) = true)
    (a9 : PySem.W.nsIn K mainGlobals "by_coming" = some (some (.ref f9))) (l9 : K.lookup f9 = some ⟨oc9, od9, .func (PySem.W.fnOf "by_coming" "by_coming" (defArgs s_by_coming) (defBody s_by_coming) (defScope s_by_coming) .none kV9 dc9 pm9 an9 (.ref cT9) ct9), sl9⟩) (c9 : PySem.W.codeIn K (.ref cT9) "by_coming" = true) (k9 : PySem.W.keepIn K (.ref f9) = true)
    (m9 : K.lookup cT9 = some ⟨of9, oe9, .fields vT9, sm9⟩) (u9 : vT9[11]? = some (.ref pT9)) (e9 : PySem.W.codeHdIn K cT9 pT9 = true) (n9 : K.lookup pT9 = none) (h9 : h.get? pT9 = some (PySem.W.tabObj #[]))
    (a10 : PySem.W.nsIn K mainGlobals "most_cooled" = some (some (.ref f10))) (l10 : K.lookup f10 = some ⟨oc10, od10, .func (PySem.W.fnOf "most_cooled" "most_cooled" (defArgs s_most_cooled) (defBody s_most_cooled) (defScope s_most_cooled) .none kV10 dc10 pm10 an10 cd10 ct10), sl10⟩) (c10 : PySem.W.codeIn K cd10 "most_cooled" = true) (k10 : PySem.W.keepIn K (.ref f10) = true)
    (a11 : PySem.W.nsIn K mainGlobals "kept_in" = some (some (.ref f11))) (l11 : K.lookup f11 = some ⟨oc11, od11, .func (PySem.W.fnOf "kept_in" "kept_in" (defArgs s_kept_in) (defBody s_kept_in) (defScope s_kept_in) .none kV11 dc11 pm11 an11 (.ref cT11) ct11), sl11⟩) (c11 : PySem.W.codeIn K (.ref cT11) "kept_in" = true) (k11 : PySem.W.keepIn K (.ref f11) = true)
    (m11 : K.lookup cT11 = some ⟨of11, oe11, .fields vT11, sm11⟩) (u11 : vT11[11]? = some (.ref pT11)) (e11 : PySem.W.codeHdIn K cT11 pT11 = true) (n11 : K.lookup pT11 = none) (h11 : h.get? pT11 = some (PySem.W.tabObj #[]))
    (a12 : PySem.W.nsIn K mainGlobals "scarce_hours" = some (some (.ref f12))) (l12 : K.lookup f12 = some ⟨oc12, od12, .func (PySem.W.fnOf "scarce_hours" "scarce_hours" (defArgs s_scarce_hours) (defBody s_scarce_hours) (defScope s_scarce_hours) .none kV12 dc12 pm12 an12 cd12 ct12), sl12⟩) (c12 : PySem.W.codeIn K cd12 "scarce_hours" = true) (k12 : PySem.W.keepIn K (.ref f12) = true)
    (a13 : PySem.W.nsIn K mainGlobals "missed" = some (some (.ref f13))) (l13 : K.lookup f13 = some ⟨oc13, od13, .func (PySem.W.fnOf "missed" "missed" (defArgs s_missed) (defBody s_missed) (defScope s_missed) .none kV13 dc13 pm13 an13 cd13 ct13), sl13⟩) (c13 : PySem.W.codeIn K cd13 "missed" = true) (k13 : PySem.W.keepIn K (.ref f13) = true)
    (a14 : PySem.W.nsIn K mainGlobals "shows_cooled" = some (some (.ref f14))) (l14 : K.lookup f14 = some ⟨oc14, od14, .func (PySem.W.fnOf "shows_cooled" "shows_cooled" (defArgs s_shows_cooled) (defBody s_shows_cooled) (defScope s_shows_cooled) .none kV14 dc14 pm14 an14 cd14 ct14), sl14⟩) (c14 : PySem.W.codeIn K cd14 "shows_cooled" = true) (k14 : PySem.W.keepIn K (.ref f14) = true)
    (a15 : PySem.W.nsIn K mainGlobals "_law_begin" = some (some (.ref f15))) (l15 : K.lookup f15 = some ⟨oc15, od15, .func (PySem.W.fnOf "_law_begin" "_law_begin" (defArgs s__law_begin) (defBody s__law_begin) (defScope s__law_begin) .none kV15 dc15 pm15 an15 cd15 ct15), sl15⟩) (c15 : PySem.W.codeIn K cd15 "_law_begin" = true) (k15 : PySem.W.keepIn K (.ref f15) = true)
    (a16 : PySem.W.nsIn K mainGlobals "_law_take" = some (some (.ref f16))) (l16 : K.lookup f16 = some ⟨oc16, od16, .func (PySem.W.fnOf "_law_take" "_law_take" (defArgs s__law_take) (defBody s__law_take) (defScope s__law_take) .none kV16 dc16 pm16 an16 cd16 ct16), sl16⟩) (c16 : PySem.W.codeIn K cd16 "_law_take" = true) (k16 : PySem.W.keepIn K (.ref f16) = true)
    (a17 : PySem.W.nsIn K mainGlobals "_law_pieces" = some (some (.ref f17))) (l17 : K.lookup f17 = some ⟨oc17, od17, .func (PySem.W.fnOf "_law_pieces" "_law_pieces" (defArgs s__law_pieces) (defBody s__law_pieces) (defScope s__law_pieces) .none kV17 dc17 pm17 an17 cd17 ct17), sl17⟩) (c17 : PySem.W.codeIn K cd17 "_law_pieces" = true) (k17 : PySem.W.keepIn K (.ref f17) = true)
    (a18 : PySem.W.nsIn K mainGlobals "_law_here" = some (some (.ref f18))) (l18 : K.lookup f18 = some ⟨oc18, od18, .func (PySem.W.fnOf "_law_here" "_law_here" (defArgs s__law_here) (defBody s__law_here) (defScope s__law_here) .none kV18 dc18 pm18 an18 cd18 ct18), sl18⟩) (c18 : PySem.W.codeIn K cd18 "_law_here" = true) (k18 : PySem.W.keepIn K (.ref f18) = true)
    (a19 : PySem.W.nsIn K mainGlobals "_law_whole" = some (some (.ref f19))) (l19 : K.lookup f19 = some ⟨oc19, od19, .func (PySem.W.fnOf "_law_whole" "_law_whole" (defArgs s__law_whole) (defBody s__law_whole) (defScope s__law_whole) .none kV19 dc19 pm19 an19 cd19 ct19), sl19⟩) (c19 : PySem.W.codeIn K cd19 "_law_whole" = true) (k19 : PySem.W.keepIn K (.ref f19) = true)
    (a20 : PySem.W.nsIn K mainGlobals "_law_rising" = some (some (.ref f20))) (l20 : K.lookup f20 = some ⟨oc20, od20, .func (PySem.W.fnOf "_law_rising" "_law_rising" (defArgs s__law_rising) (defBody s__law_rising) (defScope s__law_rising) .none kV20 dc20 pm20 an20 cd20 ct20), sl20⟩) (c20 : PySem.W.codeIn K cd20 "_law_rising" = true) (k20 : PySem.W.keepIn K (.ref f20) = true)
    (a21 : PySem.W.nsIn K mainGlobals "_law_fits" = some (some (.ref f21))) (l21 : K.lookup f21 = some ⟨oc21, od21, .func (PySem.W.fnOf "_law_fits" "_law_fits" (defArgs s__law_fits) (defBody s__law_fits) (defScope s__law_fits) .none kV21 dc21 pm21 an21 cd21 ct21), sl21⟩) (c21 : PySem.W.codeIn K cd21 "_law_fits" = true) (k21 : PySem.W.keepIn K (.ref f21) = true)
    (a22 : PySem.W.nsIn K mainGlobals "_law_slots" = some (some (.ref f22))) (l22 : K.lookup f22 = some ⟨oc22, od22, .func (PySem.W.fnOf "_law_slots" "_law_slots" (defArgs s__law_slots) (defBody s__law_slots) (defScope s__law_slots) .none kV22 dc22 pm22 an22 cd22 ct22), sl22⟩) (c22 : PySem.W.codeIn K cd22 "_law_slots" = true) (k22 : PySem.W.keepIn K (.ref f22) = true)
    (a23 : PySem.W.nsIn K mainGlobals "_law_odd" = some (some (.ref f23))) (l23 : K.lookup f23 = some ⟨oc23, od23, .func (PySem.W.fnOf "_law_odd" "_law_odd" (defArgs s__law_odd) (defBody s__law_odd) (defScope s__law_odd) .none kV23 dc23 pm23 an23 cd23 ct23), sl23⟩) (c23 : PySem.W.codeIn K cd23 "_law_odd" = true) (k23 : PySem.W.keepIn K (.ref f23) = true)
    (a24 : PySem.W.nsIn K mainGlobals "_law_bent" = some (some (.ref f24))) (l24 : K.lookup f24 = some ⟨oc24, od24, .func (PySem.W.fnOf "_law_bent" "_law_bent" (defArgs s__law_bent) (defBody s__law_bent) (defScope s__law_bent) .none kV24 dc24 pm24 an24 cd24 ct24), sl24⟩) (c24 : PySem.W.codeIn K cd24 "_law_bent" = true) (k24 : PySem.W.keepIn K (.ref f24) = true)
    (a25 : PySem.W.nsIn K mainGlobals "law" = some (some (.ref f25))) (l25 : K.lookup f25 = some ⟨oc25, od25, .func (PySem.W.fnOf "law" "law" (defArgs s_law) (defBody s_law) (defScope s_law) .none kV25 dc25 pm25 an25 cd25 ct25), sl25⟩) (c25 : PySem.W.codeIn K cd25 "law" = true) (k25 : PySem.W.keepIn K (.ref f25) = true)
    (z1 : PySem.W.nsIn K mainGlobals "len" = some none)
    (z2 : PySem.W.nsIn K mainGlobals "divmod" = some none)
    (z3 : PySem.W.nsIn K mainGlobals "range" = some none)
    (z4 : PySem.W.nsIn K mainGlobals "sum" = some none)
    (z5 : PySem.W.nsIn K mainGlobals "all" = some none)
    (z6 : PySem.W.nsIn K mainGlobals "any" = some none)
    (z7 : PySem.W.nsIn K mainGlobals "isinstance" = some none)
    (z8 : PySem.W.nsIn K mainGlobals "str" = some none)
    (z9 : PySem.W.nsIn K mainGlobals "int" = some none)
    (z10 : PySem.W.nsIn K mainGlobals "list" = some none)
    (z11 : PySem.W.nsIn K mainGlobals "tuple" = some none)
    (z12 : PySem.W.nsIn K mainGlobals "bool" = some none)
    (z13 : PySem.W.nsIn K mainGlobals "zip" = some none)
    (z14 : PySem.W.nsIn K mainGlobals "set" = some none)
    (z15 : PySem.W.nsIn K mainGlobals "sorted" = some none)
    (z16 : PySem.W.nsIn K mainGlobals "enumerate" = some none)
    (z17 : PySem.W.nsIn K mainGlobals "repr" = some none)
    (z18 : PySem.W.nsIn K mainGlobals "min" = some none)
    (z19 : PySem.W.nsIn K mainGlobals "max" = some none)
    (z20 : PySem.W.nsIn K mainGlobals "abs" = some none)
    (hne0 : pT9 ≠ pT11)
    : ∃ (fd : FuncData) (cs : List (Addr × Addr)) (sp : Sp), (∀ p ∈ cs, h.get? p.2 = some (PySem.W.tabObj #[])) ∧ (∀ p ∈ cs, K.lookup p.2 = none) ∧ (∀ p ∈ cs, PySem.W.CodeHd h p.1 p.2) ∧ (∀ (s : Shared) (v : Value), BindsTo s fd ⟨[v], []⟩ [("_law_script", v)]) ∧
      (∀ (H : Hp) (a : Addr) (ns : List Int), ns.length ≤ 63 → (∀ p ∈ cs, H p.2 = some (.tbl #[])) → SqL K H a (ns.map V.int) → sp [.ref a] H (fun v _ => v = .bl true) E0) ∧
      ∀ base : Heap, K.In base → base.Ns mainGlobals mg → (∀ p ∈ cs, LamX.TabB base mg p.1 p.2) → FnG l.prog w K mg base 6 fa fd ["_law_script"] sp := by
  have e := hfa.symm.trans (PySem.W.mg_of X G a25)
  cases e
  have T : Txt mg := ⟨PySem.W.mg_none_of X G z1, PySem.W.mg_none_of X G z2, PySem.W.mg_none_of X G z3, PySem.W.mg_none_of X G z4, PySem.W.mg_none_of X G z5, PySem.W.mg_none_of X G z6, PySem.W.mg_none_of X G z7, PySem.W.mg_none_of X G z8, PySem.W.mg_none_of X G z9, PySem.W.mg_none_of X G z10, PySem.W.mg_none_of X G z11, PySem.W.mg_none_of X G z12, PySem.W.mg_none_of X G z13, PySem.W.mg_none_of X G z14, PySem.W.mg_none_of X G z15, PySem.W.mg_none_of X G z16, PySem.W.mg_none_of X G z17, PySem.W.mg_none_of X G z18, PySem.W.mg_none_of X G z19, PySem.W.mg_none_of X G z20⟩
  have F1 := fun_mk (st := s_is_number) l1 c1 k1
  have b1 := F1.binds (ps := ["thing", "low", "high"]) fun _ _ _ _ _ _ us hl => match us, hl with | [_, _, _], _ => rfl
  have g1 := PySem.W.mg_of X G a1
  have F2 := fun_mk (st := s_is_rising) l2 c2 k2
  have b2 := F2.binds (ps := ["keys"]) fun _ _ _ _ _ _ us hl => match us, hl with | [_], _ => rfl
  have g2 := PySem.W.mg_of X G a2
  have F3 := fun_mk (st := s_are_rising) l3 c3 k3
  have b3 := F3.binds (ps := ["thing", "low", "high"]) fun _ _ _ _ _ _ us hl => match us, hl with | [_, _, _], _ => rfl
  have g3 := PySem.W.mg_of X G a3
  have F4 := fun_mk (st := s_in_at) l4 c4 k4
  have b4 := F4.binds (ps := ["pieces", "hour"]) fun _ _ _ _ _ _ us hl => match us, hl with | [_, _], _ => rfl
  have g4 := PySem.W.mg_of X G a4
  have F5 := fun_mk (st := s_is_in) l5 c5 k5
  have b5 := F5.binds (ps := ["piece", "hour"]) fun _ _ _ _ _ _ us hl => match us, hl with | [_, _], _ => rfl
  have g5 := PySem.W.mg_of X G a5
  have F6 := fun_mk (st := s_out_at) l6 c6 k6
  have b6 := F6.binds (ps := ["piece"]) fun _ _ _ _ _ _ us hl => match us, hl with | [_], _ => rfl
  have g6 := PySem.W.mg_of X G a6
  have F7 := fun_mk (st := s_most_in) l7 c7 k7
  have b7 := F7.binds (ps := ["pieces"]) fun _ _ _ _ _ _ us hl => match us, hl with | [_], _ => rfl
  have g7 := PySem.W.mg_of X G a7
  have F8 := fun_mk (st := s_hours_of_coming) l8 c8 k8
  have b8 := F8.binds (ps := ["pieces"]) fun _ _ _ _ _ _ us hl => match us, hl with | [_], _ => rfl
  have g8 := PySem.W.mg_of X G a8
  have F9 := fun_mk (st := s_by_coming) l9 c9 k9
  have b9 := F9.binds (ps := ["pieces"]) fun _ _ _ _ _ _ us hl => match us, hl with | [_], _ => rfl
  have g9 := PySem.W.mg_of X G a9
  have F10 := fun_mk (st := s_most_cooled) l10 c10 k10
  have b10 := F10.binds (ps := ["pieces", "slots"]) fun _ _ _ _ _ _ us hl => match us, hl with | [_, _], _ => rfl
  have g10 := PySem.W.mg_of X G a10
  have F11 := fun_mk (st := s_kept_in) l11 c11 k11
  have b11 := F11.binds (ps := ["pieces", "slots"]) fun _ _ _ _ _ _ us hl => match us, hl with | [_, _], _ => rfl
  have g11 := PySem.W.mg_of X G a11
  have F12 := fun_mk (st := s_scarce_hours) l12 c12 k12
  have b12 := F12.binds (ps := ["pieces", "slots"]) fun _ _ _ _ _ _ us hl => match us, hl with | [_, _], _ => rfl
  have g12 := PySem.W.mg_of X G a12
  have F13 := fun_mk (st := s_missed) l13 c13 k13
  have b13 := F13.binds (ps := ["pieces", "ahead", "behind"]) fun _ _ _ _ _ _ us hl => match us, hl with | [_, _, _], _ => rfl
  have g13 := PySem.W.mg_of X G a13
  have F14 := fun_mk (st := s_shows_cooled) l14 c14 k14
  have b14 := F14.binds (ps := ["pieces", "slots", "thing"]) fun _ _ _ _ _ _ us hl => match us, hl with | [_, _, _], _ => rfl
  have g14 := PySem.W.mg_of X G a14
  have F15 := fun_mk (st := s__law_begin) l15 c15 k15
  have b15 := F15.binds (ps := ["_law_script", "_law_k"]) fun _ _ _ _ _ _ us hl => match us, hl with | [_, _], _ => rfl
  have g15 := PySem.W.mg_of X G a15
  have F16 := fun_mk (st := s__law_take) l16 c16 k16
  have b16 := F16.binds (ps := ["_law_state", "_law_many"]) fun _ _ _ _ _ _ us hl => match us, hl with | [_, _], _ => rfl
  have g16 := PySem.W.mg_of X G a16
  have F17 := fun_mk (st := s__law_pieces) l17 c17 k17
  have b17 := F17.binds (ps := ["_law_state", "_law_most"]) fun _ _ _ _ _ _ us hl => match us, hl with | [_, _], _ => rfl
  have g17 := PySem.W.mg_of X G a17
  have F18 := fun_mk (st := s__law_here) l18 c18 k18
  have b18 := F18.binds (ps := ["_law_pieces_here", "_law_hour"]) fun _ _ _ _ _ _ us hl => match us, hl with | [_, _], _ => rfl
  have g18 := PySem.W.mg_of X G a18
  have F19 := fun_mk (st := s__law_whole) l19 c19 k19
  have b19 := F19.binds (ps := ["_law_thing"]) fun _ _ _ _ _ _ us hl => match us, hl with | [_], _ => rfl
  have g19 := PySem.W.mg_of X G a19
  have F20 := fun_mk (st := s__law_rising) l20 c20 k20
  have b20 := F20.binds (ps := ["_law_thing", "_law_most"]) fun _ _ _ _ _ _ us hl => match us, hl with | [_, _], _ => rfl
  have g20 := PySem.W.mg_of X G a20
  have F21 := fun_mk (st := s__law_fits) l21 c21 k21
  have b21 := F21.binds (ps := ["_law_pieces_here", "_law_slots_here", "_law_thing"]) fun _ _ _ _ _ _ us hl => match us, hl with | [_, _, _], _ => rfl
  have g21 := PySem.W.mg_of X G a21
  have F22 := fun_mk (st := s__law_slots) l22 c22 k22
  have b22 := F22.binds (ps := ["_law_state", "_law_pieces_here"]) fun _ _ _ _ _ _ us hl => match us, hl with | [_, _], _ => rfl
  have g22 := PySem.W.mg_of X G a22
  have F23 := fun_mk (st := s__law_odd) l23 c23 k23
  have b23 := F23.binds (ps := ["_law_state", "_law_good"]) fun _ _ _ _ _ _ us hl => match us, hl with | [_, _], _ => rfl
  have g23 := PySem.W.mg_of X G a23
  have F24 := fun_mk (st := s__law_bent) l24 c24 k24
  have b24 := F24.binds (ps := ["_law_state", "_law_row", "_law_many"]) fun _ _ _ _ _ _ us hl => match us, hl with | [_, _, _], _ => rfl
  have g24 := PySem.W.mg_of X G a24
  have F25 := fun_mk (st := s_law) l25 c25 k25
  refine ⟨PySem.W.fnOf "law" "law" (defArgs s_law) (defBody s_law) (defScope s_law) .none kV25 dc25 pm25 an25 cd25 ct25, [(cT9, pT9), (cT11, pT11)], spLaw K pT9 pT11, (fun p hp => by
    simp only [List.mem_cons, List.not_mem_nil, or_false] at hp
    rcases hp with rfl | rfl
    · exact h9
    · exact h11), (fun p hp => by
    simp only [List.mem_cons, List.not_mem_nil, or_false] at hp
    rcases hp with rfl | rfl
    · exact n9
    · exact n11), (fun p hp => by
    simp only [List.mem_cons, List.not_mem_nil, or_false] at hp
    rcases hp with rfl | rfl
    · exact PySem.W.codeHd_of_K X e9
    · exact PySem.W.codeHd_of_K X e11), fun s v => .of_eq rfl, (fun H a ns hl hT hS => ⟨a, ns, rfl, hS, hl, (fun p hp => by
    (try unfold TT at hp)
    simp only [List.mem_cons, List.not_mem_nil, or_false] at hp
    rcases hp with rfl | rfl
    · exact LamX.TabS.nil (hT (cT9, pT9) (by simp))
    · exact LamX.TabS.nil (hT (cT11, pT11) (by simp))), fun _ => rfl⟩), fun base _ _ hTB => ?_⟩
  have TB9 := hTB (cT9, pT9) (by simp)
  have TB11 := hTB (cT11, pT11) (by simp)
  have c__law_take : Cl l.prog w K mg base 1 "_law_take" (spTake) := ⟨_, _, _, ok_take F16 T, g16, F16.kp, b16⟩
  have c__law_begin : Cl l.prog w K mg base 1 "_law_begin" ((spBegin K)) := ⟨_, _, _, ok_begin F15 T, g15, F15.kp, b15⟩
  have c__law_pieces : Cl l.prog w K mg base 2 "_law_pieces" ((spPieces K)) := ⟨_, _, _, ok_pieces F17 T c__law_take, g17, F17.kp, b17⟩
  have c__law_here : Cl l.prog w K mg base 1 "_law_here" ((spAt K)) := ⟨_, _, _, ok_here F18 T, g18, F18.kp, b18⟩
  have c__law_slots : Cl l.prog w K mg base 2 "_law_slots" ((spLSl K)) := ⟨_, _, _, ok_lsl F22 T c__law_take c__law_here, g22, F22.kp, b22⟩
  have c_by_coming : Cl l.prog w K mg base 2 "by_coming" ((spBy K pT9 pT11)) := ⟨_, _, _, ok_by F9 rfl T TB9 hne0, g9, F9.kp, b9⟩
  have c_out_at : Cl l.prog w K mg base 1 "out_at" ((spOut K)) := ⟨_, _, _, ok_out F6, g6, F6.kp, b6⟩
  have c_is_in : Cl l.prog w K mg base 2 "is_in" ((spIn K)) := ⟨_, _, _, ok_in F5 c_out_at, g5, F5.kp, b5⟩
  have c_kept_in : Cl l.prog w K mg base 4 "kept_in" ((spKept K pT9 pT11)) := ⟨_, _, _, ok_kept F11 rfl T TB11 hne0 c_by_coming c_is_in c_out_at, g11, F11.kp, b11⟩
  have c_hours_of_coming : Cl l.prog w K mg base 1 "hours_of_coming" ((spHrs K)) := ⟨_, _, _, ok_hrs F8 T, g8, F8.kp, b8⟩
  have c_missed : Cl l.prog w K mg base 2 "missed" ((spMiss K)) := ⟨_, _, _, ok_miss F13 T c_out_at, g13, F13.kp, b13⟩
  have c_scarce_hours : Cl l.prog w K mg base 3 "scarce_hours" ((spSc K)) := ⟨_, _, _, ok_sc F12 T c_hours_of_coming c_missed, g12, F12.kp, b12⟩
  have c_most_cooled : Cl l.prog w K mg base 5 "most_cooled" ((spMC K pT9 pT11)) := ⟨_, _, _, ok_mc F10 c_kept_in c_scarce_hours, g10, F10.kp, b10⟩
  have c_is_number : Cl l.prog w K mg base 1 "is_number" ((spNum K)) := ⟨_, _, _, ok_num F1 T, g1, F1.kp, b1⟩
  have c_is_rising : Cl l.prog w K mg base 1 "is_rising" ((spRis K)) := ⟨_, _, _, ok_ris F2 T, g2, F2.kp, b2⟩
  have c_are_rising : Cl l.prog w K mg base 2 "are_rising" ((spAre K)) := ⟨_, _, _, ok_are F3 T c_is_number c_is_rising, g3, F3.kp, b3⟩
  have c_in_at : Cl l.prog w K mg base 3 "in_at" ((spAt K)) := ⟨_, _, _, ok_at F4 T c_is_in, g4, F4.kp, b4⟩
  have c_most_in : Cl l.prog w K mg base 4 "most_in" ((spMost K)) := ⟨_, _, _, ok_most F7 T c_in_at c_hours_of_coming, g7, F7.kp, b7⟩
  have c_shows_cooled : Cl l.prog w K mg base 5 "shows_cooled" ((spShow K)) := ⟨_, _, _, ok_show F14 T c_are_rising c_most_in, g14, F14.kp, b14⟩
  have c__law_whole : Cl l.prog w K mg base 1 "_law_whole" ((spWh K)) := ⟨_, _, _, ok_lwhole F19 T, g19, F19.kp, b19⟩
  have c__law_bent : Cl l.prog w K mg base 2 "_law_bent" ((spBent K)) := ⟨_, _, _, ok_bent F24 T c__law_take c__law_whole, g24, F24.kp, b24⟩
  have c__law_odd : ClG l.prog w K mg base 2 "_law_odd" [] ((spOdd K)) := ⟨_, _, _, [], ok_odd F23 T c__law_take, g23, F23.kp, b23, .nil⟩
  have c__law_rising : Cl l.prog w K mg base 2 "_law_rising" ((spLRis K)) := ⟨_, _, _, ok_lris F20 T c__law_whole, g20, F20.kp, b20⟩
  have c__law_fits : Cl l.prog w K mg base 3 "_law_fits" ((spLFits K)) := ⟨_, _, _, ok_lfits F21 T c__law_rising c__law_here, g21, F21.kp, b21⟩
  exact ok_law F25 T c__law_take c__law_begin c__law_pieces c__law_slots c_most_cooled c_shows_cooled c__law_bent c__law_odd c__law_fits
end Pot
open PySem PySem.W PyProof.Rows
set_option maxRecDepth 100000 in
set_option maxHeartbeats 0 in
theorem PySem.Challenge.cw_potround_k51_cooled_spoilt_anywhere_holds : PySem.Challenge.rw_potround_k51_cooled_spoilt_anywhere.Holds := by
  w_on; o_law; k_head; (case hw => w_witness2)
  k_fill
  refine Pot.walkGT (l := PySem.Challenge.rw_potround_k51_cooled_spoilt_anywhere) (n := 63) (k := 6) (x := "_law_script") rfl (by decide) rfl ⟨rfl, by decide, by decide⟩ (fun w h Y => PySem.W.km_in_of Y) ?F
  case F =>
    intro w mg fa h Y KX G hmg
    refine' Pot.all_mk KX G hmg ?a1 ?l1 ?c1 ?k1 ?a2 ?l2 ?c2 ?k2 ?a3 ?l3 ?c3 ?k3 ?a4 ?l4 ?c4 ?k4 ?a5 ?l5 ?c5 ?k5 ?a6 ?l6 ?c6 ?k6 ?a7 ?l7 ?c7 ?k7 ?a8 ?l8 ?c8 ?k8 ?a9 ?l9 ?c9 ?k9 ?m9 ?u9 ?e9 ?n9 ?h9 ?a10 ?l10 ?c10 ?k10 ?a11 ?l11 ?c11 ?k11 ?m11 ?u11 ?e11 ?n11 ?h11 ?a12 ?l12 ?c12 ?k12 ?a13 ?l13 ?c13 ?k13 ?a14 ?l14 ?c14 ?k14 ?a15 ?l15 ?c15 ?k15 ?a16 ?l16 ?c16 ?k16 ?a17 ?l17 ?c17 ?k17 ?a18 ?l18 ?c18 ?k18 ?a19 ?l19 ?c19 ?k19 ?a20 ?l20 ?c20 ?k20 ?a21 ?l21 ?c21 ?k21 ?a22 ?l22 ?c22 ?k22 ?a23 ?l23 ?c23 ?k23 ?a24 ?l24 ?c24 ?k24 ?a25 ?l25 ?c25 ?k25 ?z1 ?z2 ?z3 ?z4 ?z5 ?z6 ?z7 ?z8 ?z9 ?z10 ?z11 ?z12 ?z13 ?z14 ?z15 ?z16 ?z17 ?z18 ?z19 ?z20 ?hne0
    (case a1 => k_is)
    (case l1 => k_is)
    (case c1 => k_is)
    (case k1 => k_is)
    (case a2 => k_is)
    (case l2 => k_is)
    (case c2 => k_is)
    (case k2 => k_is)
    (case a3 => k_is)
    (case l3 => k_is)
    (case c3 => k_is)
    (case k3 => k_is)
    (case a4 => k_is)
    (case l4 => k_is)
    (case c4 => k_is)
    (case k4 => k_is)
    (case a5 => k_is)
    (case l5 => k_is)
    (case c5 => k_is)
    (case k5 => k_is)
    (case a6 => k_is)
    (case l6 => k_is)
    (case c6 => k_is)
    (case k6 => k_is)
    (case a7 => k_is)
    (case l7 => k_is)
    (case c7 => k_is)
    (case k7 => k_is)
    (case a8 => k_is)
    (case l8 => k_is)
    (case c8 => k_is)
    (case k8 => k_is)
    (case a9 => k_is)
    (case l9 => k_is)
    (case c9 => k_is)
    (case k9 => k_is)
    (case m9 => k_is)
    (case u9 => rfl)
    (case e9 => first | k_is | kernel_rfl | decide +kernel)
    (case n9 => first | k_is | kernel_rfl | rfl | decide +kernel)
    (case h9 => exact PySem.W.km_tabs_of Y _ (by first | k_mem | decide))
    (case a10 => k_is)
    (case l10 => k_is)
    (case c10 => k_is)
    (case k10 => k_is)
    (case a11 => k_is)
    (case l11 => k_is)
    (case c11 => k_is)
    (case k11 => k_is)
    (case m11 => k_is)
    (case u11 => rfl)
    (case e11 => first | k_is | kernel_rfl | decide +kernel)
    (case n11 => first | k_is | kernel_rfl | rfl | decide +kernel)
    (case h11 => exact PySem.W.km_tabs_of Y _ (by first | k_mem | decide))
    (case a12 => k_is)
    (case l12 => k_is)
    (case c12 => k_is)
    (case k12 => k_is)
    (case a13 => k_is)
    (case l13 => k_is)
    (case c13 => k_is)
    (case k13 => k_is)
    (case a14 => k_is)
    (case l14 => k_is)
    (case c14 => k_is)
    (case k14 => k_is)
    (case a15 => k_is)
    (case l15 => k_is)
    (case c15 => k_is)
    (case k15 => k_is)
    (case a16 => k_is)
    (case l16 => k_is)
    (case c16 => k_is)
    (case k16 => k_is)
    (case a17 => k_is)
    (case l17 => k_is)
    (case c17 => k_is)
    (case k17 => k_is)
    (case a18 => k_is)
    (case l18 => k_is)
    (case c18 => k_is)
    (case k18 => k_is)
    (case a19 => k_is)
    (case l19 => k_is)
    (case c19 => k_is)
    (case k19 => k_is)
    (case a20 => k_is)
    (case l20 => k_is)
    (case c20 => k_is)
    (case k20 => k_is)
    (case a21 => k_is)
    (case l21 => k_is)
    (case c21 => k_is)
    (case k21 => k_is)
    (case a22 => k_is)
    (case l22 => k_is)
    (case c22 => k_is)
    (case k22 => k_is)
    (case a23 => k_is)
    (case l23 => k_is)
    (case c23 => k_is)
    (case k23 => k_is)
    (case a24 => k_is)
    (case l24 => k_is)
    (case c24 => k_is)
    (case k24 => k_is)
    (case a25 => k_is)
    (case l25 => k_is)
    (case c25 => k_is)
    (case k25 => k_is)
    (case z1 => k_is)
    (case z2 => k_is)
    (case z3 => k_is)
    (case z4 => k_is)
    (case z5 => k_is)
    (case z6 => k_is)
    (case z7 => k_is)
    (case z8 => k_is)
    (case z9 => k_is)
    (case z10 => k_is)
    (case z11 => k_is)
    (case z12 => k_is)
    (case z13 => k_is)
    (case z14 => k_is)
    (case z15 => k_is)
    (case z16 => k_is)
    (case z17 => k_is)
    (case z18 => k_is)
    (case z19 => k_is)
    (case z20 => k_is)
    (case hne0 => decide)
