import PyProof.Rows.All
import Wide.All
import OpenK.AllK
import Wide.FinOn
import HandS.ForMost
import PyProof.ReprRoads
import HandS.FStrTup
import HandS.Strs
import HandS.SetFor
import HandS.Zip
import HandS.ForExc
import HandS.IsInst
import HandS.Evl
import HandS.Conv
import HandS.Flow
import HandS.Style
import HandS.Sort
import HandS.Walk
import HandS.Codes
import HandS.StrMore
import HandS.TupAny
import HandS.Defaults
import KE.KEqSeq
import HandS.WideBits
import HandS.More
import PyProof.SetRoads
import HandS.Deep
import PyProof.StrBlock2
import KE.GoesNew
import KE.SortData
import PyProof.Rows.StrCase
import PyProof.Rows.ReprOcc
import PyProof.FitsInt
import KE.KLam
import KE.SortKeyHeap
import KE.SortLaws
import HandS.Base
import HandS.Call
import HandS.List
import HandS.Comp
import HandS.Text
import HandS.Lambda
import KE.DataCmp
import KE.DataMinMax
import HandS.SortKw
import PyProof.Rows.SortShellAny
import HandS.DictTup
import HandS.DictSubView
import KE.KDictDisplayH
import KE.KDictWalk
import PyProof.AutoSeq1
import KE.DatumOrd
import HandS.Dict
import HandS.Small
import PySem.Challenge.RW_potround_k41_teams_at_pots
set_option Elab.async false
set_option linter.all false
set_option maxRecDepth 100000
namespace Pot
open PySem PySem.Spec PyProof.Rows L2
/-! ### defs that are called where no text of a thing is under way -/
structure FnG (P : Program) (w : World) (K : PySem.W.Frag) (mg : Str → Option Value) (base : Heap) (k : Nat) (f : Addr) (fd : FuncData) (ps : List Str) (sp : Sp) : Prop where
  many : ∀ vs H Q E, sp vs H Q E → vs.length = ps.length
  does : ∀ (A : Around) (outer : List Env) (s : Shared) (H : Hp) (args : Args) (us : List Value) (vs : List V) (Q : VK), A.guards = some [] → Room k A → Env0 P w K mg base A outer s H →
    BindsTo s fd args (ps.zip us) → Vals vs us → sp vs H Q E0 → codeAny (model P w) A (.call (.ref f) args) (CR CX0 outer P w H s Q E0) s
section
variable {P : Program} {w : World} {K : PySem.W.Frag} {mg : Str → Option Value} {base : Heap}
theorem FnG.of {k : Nat} {f : Addr} {fd : FuncData} {ps : List Str} {sp : Sp} (F : FnOk P w K mg base CX0 k f fd ps sp) : FnG P w K mg base k f fd ps sp :=
  ⟨F.len, fun A outer s H args us vs Q _ hr e hb r h => F.run A outer s H args us vs Q E0 hr e hb r h⟩
theorem okG {x qual : Str} {st : Stmt} {f : Addr} {fd : FuncData} {N ps : List Str} {k : Nat} {sp : Sp} (F : Fun K x qual st f fd) (S : FnScope N ps (defScope st)) (many : ∀ vs H Q E, sp vs H Q E → vs.length = ps.length)
    (body : ∀ (cdv : Value) (A : Around) (outer : List Env) (s : Shared) (H : Hp) (vs : List V) (Q : VK), A.guards = some [] → Room k (A.deeper (envOfC qual (defScope st) s.heap.objs.size f cdv)) → sp vs H Q E0 →
      ∃ t, PSs (cxOf CX0 P w K mg base N qual (defScope st) f cdv A outer s H E0).nox (defBody st) t ∧ t { nx := fun _ H' => Q .non H', rt := Q } (start N vs) H) : FnG P w K mg base (k + 1) f fd ps sp := by
  obtain ⟨oc, od, kV, doc, pm, an, cdv, ct, osl, rfl, at_, code⟩ := F.ex
  refine ⟨many, fun A outer s H args us vs Q gd room e0 bind rel want => ?_⟩
  have kin : K.In s.heap := e0.mod.kin.keeps fun b o e => (e0.bs b o e).1
  have nolim : s.heap.NoLimit := e0.mod.nolimit.keeps fun b o e => (e0.bs b o e).1
  refine codeAny_call_function room.depth (kin _ _ at_) rfl S.co S.gen rfl (PySem.W.codeRec_of kin code) (bind _ _ _ _ (wpAny_newFunctionEnv_cells S.kind (fun y hy => ?_) fun env he s1 x => ?_))
  · obtain ⟨n, v⟩ := y
    exact (S.par n (List.of_mem_zip hy).1).imp id fun q => ⟨q, PySem.W.cellsFrom_some _ _ _ (.inl q)⟩
  · subst he
    obtain ⟨t, ht, hq⟩ := body cdv A outer s H vs Q gd (room.deeper _) want
    have I : Inv (cxOf CX0 P w K mg base N qual (defScope st) f cdv A outer s H E0) [] (start N vs) H s1 := inv_start S room.hd e0 (many _ _ _ _ want) rel x
    refine ⟨nolim.keeps x.toInCall.keep, codeAny_func (wpAny_mono (ht.nox.run [] s1 (start N vs) H _ I hq) (fun fl s' hs => ?_) fun _ _ z => z)⟩
    cases fl with
    | ret u =>
      obtain ⟨v, σ', H', J, rv, q⟩ := hs
      exact ⟨v, H', J.os, J.bare, J.base, J.hok, rv, q⟩
    | next =>
      obtain ⟨σ', H', J, q⟩ := hs
      exact ⟨V.non, H', J.os, J.bare, J.base, J.hok, rfl, q⟩
    | brk => obtain ⟨_, _, _, q⟩ := hs; exact q.elim
    | cont => obtain ⟨_, _, _, q⟩ := hs; exact q.elim
/-! calls -/
/-- a def that may be called by its name where no text is under way -/
def ClG (P : Program) (w : World) (K : PySem.W.Frag) (mg : Str → Option Value) (base : Heap) (k : Nat) (x : Str) (ds : List V) (sp : Sp) : Prop :=
  ∃ (f : Addr) (fd : FuncData) (ps : List Str) (dus : List Value), FnG P w K mg base k f fd ps sp ∧ mg x = some (.ref f) ∧ PySem.W.keepIn K (.ref f) = true ∧ Binds K fd ps dus ∧ Vals ds dus
theorem pe_clG {X : Cx} {k j : Nat} {x : Str} {ds : List V} {sp : Sp} {e : Expr} {es : List Expr} {t : TA} {p pos : Pos} (c : ClG X.prog X.w X.K X.mg X.base k x ds sp) (hr : Room j X.A) (gd : X.A.guards = some []) (hk : k ≤ j) (hg : Gl X x) (ha : PA X (e :: es) t)
    (hdb : (x == ("__debug__" : Str)) = false := by decide) (he : starEach (e :: es) X.env = (false, eval e X.env) :: starEach es X.env := by rfl) (hpl : (backTo pos (starEach es X.env)).any (·.1) = false := by rfl) :
    PE X (.Call (.Name x p) (e :: es) [] pos) (tCall sp ds E0 t) := by
  obtain ⟨f, fd, ps, dus, G, named, kept, binds, dv⟩ := c
  refine ⟨fun pins s σ H Q I h => wpAny_Call_Name_kw (ld_glob I hg named (PySem.W.callWith_K (h₀ := X.base) I.ok.mod.kin kept (thn (ha.run pos pins s σ H _ I h) fun us s1 hh => ?_) he hpl) hdb)⟩
  obtain ⟨vs, H1, I1, r, q⟩ := hh
  refine ⟨I1.kIn, ?_⟩
  have rel := r.append dv
  have n : (us ++ dus).length = ps.length := rel.length ▸ G.many _ _ _ _ q
  refine wpAny_call (codeAny_mono (G.does X.A X.stack s1 H1 ⟨us, []⟩ (us ++ dus) (vs ++ ds) Q gd (hr.mono hk) I1.env0 (binds s1 us I1.kIn n) rel q) fun res s' hq => ?_)
  rcases res with _ | fl
  case error => exact (show False from hq).elim
  cases fl <;> first | exact I1.after hq | exact (show False from hq).elim
/-! the law's own call -/
theorem law_callG {mb : Str → Option Value} {k : Nat} {fa a : Addr} {fd : FuncData} {x : Str} {sp : Sp} {s : Shared} {vs : List Value} {ns : List Int} (kin : K.In s.heap) (glob : s.heap.Ns mainGlobals mg) (blt : s.heap.Ns builtinsNs mb)
    (boot : ∀ y : Str, y ≠ "__name__" → mb y = bootBuiltins y) (lim : s.heap.NoLimit) (gens : s.gens = #[]) (obj : s.heap.get? a = some { cls := .type "list", data := .seq vs.toArray }) (whole : IntsAre vs ns) (small : ns.length ≤ sizeLine) (room : Room k callerA)
    (F : ∀ base : Heap, K.In base → base.Ns mainGlobals mg → FnG P w K mg base k fa fd [x] sp) (bind : ∀ (s : Shared) (u : Value), BindsTo s fd ⟨[u], []⟩ [(x, u)])
    (want : ∀ H : Hp, Only H → SqL K H a (ns.map V.int) → sp [.ref a] H (fun v _ => v = .bl true) E0) :
    codeAny (model P w) callerA (.call (.ref fa) ⟨[.ref a], []⟩) (fun r s' => r = .ok (.ret (.bool true)) ∧ OldK s.heap s'.heap ∧ s'.os = s.os ∧ AllBare s'.gens) s := by
  have rv := vals_ints whole
  have nv := whole.length
  -- which heap is told: the script, locked, where it isn't one of the written part
  obtain ⟨H, only, seq, fine, alone, apart⟩ : ∃ H : Hp, Only H ∧ SqL K H a (ns.map V.int) ∧ HOk P w H s.heap ∧ (∀ b u, H b = some u → b = a) ∧ (∀ u, H a = some u → K.lookup a = none) := by
    cases lk : K.lookup a with
    | some o =>
      have same := kin a o lk
      rw [obj] at same
      cases same
      exact ⟨fun _ => none, fun _ => .inl rfl, .inr ⟨_, vs.toArray, _, lk, rfl, rfl, rfl, by rw [List.size_toArray, nv]; exact small, by simpa using rv⟩, (fun b u z => nomatch (show (none : Option HO) = some u from z)), (fun b u z => nomatch (show (none : Option HO) = some u from z)), fun u z => nomatch (show (none : Option HO) = some u from z)⟩
    | none =>
      have hit : ∀ b u, (if b = a then some (HO.frz { cls := .type "list", data := .seq vs.toArray } (.lst (ns.map V.int))) else none) = some u → b = a ∧ u = .frz { cls := .type "list", data := .seq vs.toArray } (.lst (ns.map V.int)) := fun b u z => by
        split at z
        · cases z; exact ⟨‹_›, rfl⟩
        · cases z
      refine ⟨fun b => if b = a then some (.frz { cls := .type "list", data := .seq vs.toArray } (.lst (ns.map V.int))) else none, fun b => ?_, .inl (.inr ⟨_, if_pos rfl⟩), fun b u z => ?_, fun b u z => (hit b u z).1, fun _ _ => rfl⟩
      · by_cases hb : b = a
        · exact .inr ⟨_, _, if_pos hb⟩
        · exact .inl (if_neg hb)
      · obtain ⟨rfl, rfl⟩ := hit b u z
        exact ⟨obj, by rw [List.length_map]; exact small, vs, _, rv, obj⟩
  have hid : ∀ {b : Addr} {o : Obj}, s.heap.get? b = some o → (b = a → H a = none) → (hidT s.heap H).get? b = some o := fun {b o} e n => hidT_get e (by
    cases q : H b with
    | none => rfl
    | some u =>
      have e2 := alone b u q
      subst e2
      rw [n rfl] at q
      cases q)
  have kinB : K.In (hidT s.heap H) := fun b o e => hid (kin b o e) fun z => by
    subst z
    cases q : H b with
    | none => rfl
    | some u => rw [apart u q] at e; cases e
  have ns_ : ∀ {b : Addr} {m : Str → Option Value}, s.heap.Ns b m → (hidT s.heap H).Ns b m := fun {b m} h => by
    obtain ⟨o, es, ep, e, d, r⟩ := h
    refine ⟨o, es, ep, hid e fun z => ?_, d, r⟩
    subst z
    rw [obj] at e
    cases e
    exact nomatch (show Data.seq vs.toArray _ = Data.dict es ep from d)
  have md : Mod K mg (hidT s.heap H) := ⟨kinB, ns_ glob, ⟨mb, ns_ blt, boot⟩, by obtain ⟨mc, h1, h2⟩ := lim; exact ⟨mc, ns_ h1, h2⟩⟩
  have e0 : Env0 P w K mg (hidT s.heap H) callerA [] s H := ⟨rfl, md, fun b o e => of_hidT e, Nat.le_of_eq (hidT_size _ _), trivial, (fun b hb => nomatch (show b ∈ ([] : List Addr) from hb)), fine, .of_eq gens⟩
  refine codeAny_mono ((F _ kinB (ns_ glob)).does callerA [] s H ⟨[.ref a], []⟩ [.ref a] [.ref a] _ rfl room e0 (bind s (.ref a)) (.cons rfl .nil) (want H only seq)) fun res s' h => ?_
  rcases res with _ | fl
  case error => exact (show False from h).elim
  cases fl <;> first | exact (show False from h).elim | skip
  obtain ⟨v, H', os, bare, un, fine', rel, q⟩ := h
  cases (show v = .bl true from q)
  cases (show _ = Value.bool true from rel)
  refine ⟨rfl, OldK.of_keep fun b o e => ?_, os, bare⟩
  cases q : H b with
  | none => exact un.keep b o e q (fun z => nomatch (show b ∈ ([] : List Addr) from z)) (fun z => nomatch z)
  | some u =>
    rcases only b with z | ⟨ob, xs, z⟩
    · rw [q] at z; cases z
    · obtain ⟨e1, _⟩ := fine b _ z
      obtain ⟨e2, _⟩ := fine' b _ (un.frzs b ob _ z)
      rw [e] at e1; cases e1
      exact e2
end
theorem walkG {l : PySem.W.OpenLaw} {n k : Nat} {q : Program} {loose : List Str} {XP : (Str → Option Value) → Heap → Prop} {YP : World → Heap → Prop} {d : DefRec} {K : Params → PySem.W.Frag} {sp : World → Sp} {x : Str}
    (most : l.most = some n) (fits : n ≤ sizeLine) (plain : d.params.defaults = []) (room : Room k callerA) (part : ∀ (w : World) (h : Heap), YP w h → (K w.params).In h)
    (F : ∀ (w : World) (mg : Str → Option Value) (fa : Addr) (h : Heap), (K w.params).In h → h.Ns mainGlobals mg → mg d.name = some (.ref fa) →
      ∃ fd : FuncData, (∀ (s : Shared) (u : Value), BindsTo s fd ⟨[u], []⟩ [(x, u)]) ∧ ∀ base : Heap, (K w.params).In base → base.Ns mainGlobals mg → FnG l.prog w (K w.params) mg base k fa fd [x] (sp w))
    (want : ∀ (w : World) (H : Hp) (a : Addr) (ns : List Int), ns.length ≤ n → Only H → SqL (K w.params) H a (ns.map V.int) → sp w [.ref a] H (fun v _ => v = .bl true) E0) :
    PySem.W.WalkO q loose XP YP l.row.toRowW d [] (fun f vs => PySem.call f vs) := by
  refine Att.attach_call most plain fun w s₀ s₁ mg mb fa o pm cd doc a vs ns G Y _ _ _ named obj whole len gens => ?_
  obtain ⟨fd, bind, hF⟩ := F w mg fa _ (part w _ Y) G.T.g named
  exact law_callG (part w _ Y) G.T.g G.T.b G.T.builtins G.T.nolimit gens obj whole (Nat.le_trans len fits) room hF bind fun H only seq => want w H a ns len only seq
end Pot

namespace Pot
open PySem PySem.Spec PyProof.Rows L2
/-! ### repr of what is made of numbers, texts, truths, None, lists and tuples -/
section
variable {K : PySem.W.Frag}
mutual
theorem dp_noDict {H : Hp} : ∀ {v : V} {d : PyData}, Dp K H v d → d.hasDict = false
  | _, _, .non => rfl
  | _, _, .bl _ => rfl
  | _, _, .int _ => rfl
  | _, _, .str _ => rfl
  | _, _, .lst _ a => dpAll_noDict a
  | _, _, .tup _ a => dpAll_noDict a
theorem dpAll_noDict {H : Hp} : ∀ {vs : List V} {ds : List PyData}, DpAll K H vs ds → PyData.hasDictAll ds = false
  | _, _, .nil => rfl
  | _, _, .cons h t => by
    show (PyData.hasDict _ || PyData.hasDictAll _) = false
    rw [dp_noDict h, dpAll_noDict t]
    rfl
end
/-- how long its text may be, told roughly -/
def costAll : List PyData → Nat
  | [] => 0
  | x :: xs => cost x + 2 + costAll xs
where cost : PyData → Nat
  | .none => 4
  | .bool _ => 5
  | .int _ => 1921
  | .str x => 10 * x.length + 2
  | .list xs => costAll xs + 3
  | .tuple xs => costAll xs + 3
  | .dict _ => 0
/-- what repr is asked of here: its texts of plain signs -/
def fineAll : List PyData → Prop
  | [] => True
  | x :: xs => fine x ∧ fineAll xs
where fine : PyData → Prop
  | .none => True
  | .bool _ => True
  | .int i => i.natAbs.log2 < 1920
  | .str x => ∀ c ∈ x.cps.toList, c < 16 ^ 8
  | .list xs => fineAll xs
  | .tuple xs => fineAll xs
  | .dict _ => False
theorem from_len : ∀ (ts : List Str) (k : Nat) (acc : Str), (textFrom k acc ts).length ≤ acc.length + piled ts
  | [], k, acc => by rw [piled_nil]; exact Nat.le_refl _
  | t :: r, k, acc => by
    have ih := from_len r (k + 1)
    rw [piled_cons]
    unfold textFrom
    refine Nat.le_trans (ih _) ?_
    rw [strLen_append]
    split
    · rw [strLen_append]
      have e : (", " : Str).length = 2 := by decide +kernel
      omega
    · rw [strLen_append]
      have e : ("" : Str).length = 0 := by decide +kernel
      omega
theorem list_len (ts : List Str) : (listText ts).length ≤ piled ts + 2 := by
  unfold listText
  rw [strLen_append]
  have h := from_len ts 0 "["
  have e1 : ("[" : Str).length = 1 := by decide +kernel
  have e2 : ("]" : Str).length = 1 := by decide +kernel
  omega
mutual
theorem shown_len : ∀ d : PyData, fineAll.fine d → d.shown.length ≤ costAll.cost d
  | .none, _ => by decide +kernel
  | .bool b, _ => by cases b <;> decide +kernel
  | .int i, h => PyProof.Rows.int_text_len_1921 h
  | .str x, h => StrLaws.reprText_len x h
  | .list xs, h => Nat.le_trans (list_len _) (Nat.add_le_add (piled_len xs h) (by decide))
  | .tuple xs, h => Nat.le_trans (fmt_text _) (Nat.add_le_add (piled_len xs h) (by decide))
  | .dict _, h => h.elim
theorem piled_len : ∀ ds : List PyData, fineAll ds → piled (PyData.shownAll ds) ≤ costAll ds
  | [], _ => Nat.le_refl _
  | x :: xs, h => by
    have h1 := shown_len x h.1
    have h2 := piled_len xs h.2
    show piled (x.shown :: PyData.shownAll xs) ≤ costAll.cost x + 2 + costAll xs
    rw [piled_cons]
    omega
end
mutual
theorem fine_show : ∀ d : PyData, fineAll.fine d → d.showable = true
  | .none, _ => rfl
  | .bool _, _ => rfl
  | .int i, h => decide_eq_true h
  | .str _, _ => rfl
  | .list xs, h => fineAll_show xs h
  | .tuple xs, h => fineAll_show xs h
  | .dict _, h => h.elim
theorem fineAll_show : ∀ ds : List PyData, fineAll ds → PyData.showableAll ds = true
  | [], _ => rfl
  | x :: xs, h => by
    show (PyData.showable x && PyData.showableAll xs) = true
    rw [fine_show x h.1, fineAll_show xs h.2]
    rfl
end
end
section
variable {X : Cx}
def rRepr (K : PySem.W.Frag) : List V → Hp → VK → Prop := fun xs H Q => ∃ (a : Addr) (d : PyData), xs = [V.ref a] ∧ Dp K H (.ref a) d ∧ fineAll.fine d ∧ d.depth ≤ 60 ∧ costAll.cost d ≤ 16777216 ∧ Q (.str d.shown) H
theorem cr_repr (gd : X.A.guards = some []) (hu : X.A.units + 64 < cLine) : CallR X (.builtin "repr") (rRepr X.K) := by
  intro pins s σ H vs us Q I r h
  obtain ⟨a, d, rfl, dp, sh, dep, sz, q⟩ := h
  rw [Vals.ref1 r]
  obtain ⟨as, rd⟩ := Dp.reads I d (.ref a) (.ref a) dp rfl
  refine repr_of_reads' rd (fine_show d sh) (fun z => ?_) gd (by omega) (fun _ _ e => e) (fun h' u tk k => ⟨.str d.shown, H, I.kept k, ⟨u, rfl⟩, q⟩) (Nat.le_trans (shown_len d sh) (by rw [sizeLine_eq]; exact sz))
  rw [dp_noDict dp] at z
  cases z
end
end Pot

namespace Pot
open PySem PySem.Spec PyProof.Rows L2 PySem.W PySem.Calls
/-! ### set(xs) of a list of ints -/
/-- the object that set() makes first -/
abbrev emptySet (w : World) : Obj := { cls := .type "set", dict := none, data := .set #[] 0 (.fresh 0 0 (!w.params.followText "set-order")) }
section
variable {P : Program} {w : World} {A : Around} {E : Value → Shared → Prop} {s : Shared}
/-- what is wanted behind the filling -/
def Filled (w : World) (s : Shared) (ns : List Int) (s' : Shared) : Prop := ∃ h' tk c, s' = { s with heap := h', toks := tk } ∧ SetR w h' s.heap.objs.size (fun j => decide (j ∈ ns)) c ∧ c ≤ ns.length ∧ ∀ b o, s.heap.get? b = some o → h'.get? b = some o
set_option maxHeartbeats 4000000 in
theorem call_set_li {l : Addr} {items : Array Value} (ns : List Int) {Q : Value → Shared → Prop} (hh : A.handled = none) (hl : s.heap.IsList l items) (hit : IntsAre items.toList ns) (hb : ns.length + 1 < scanBound)
    (hq : ∀ s', Filled w s ns s' → Q (.ref s.heap.objs.size) s') : wpAny (model P w) A (call (.type "set") [.ref l]) Q E s := by
  have size : items.size = ns.length := by
    rw [← Array.length_toList]; exact IntsAre.length hit
  have made := F.called_set.made
  have below := F.called_set.sub
  obtain ⟨_, _, chain⟩ := F.called_set.mro
  have nt := F.called_set.notType
  have cc := F.called_set.canCreate
  have ck := F.typeCall_set_1 (.ref l)
  refine wpAny_call (codeAny_of_tree (show wpAny _ _ (callAny (.type "set") _) _ _ _ from wpAny_pure ⟨Code.quiet_builtin _ (by decide +kernel), codeAny_builtin F.entry_type_call ?_⟩))
  rw [Around.under_plain (weight_type_call_type "set" [.ref l] []) rfl]
  repeat (any_goals (first | assumption | wp_step))
  refine codeAny_mono (code_set_led1 (.ref l) (E := E) (Q₁ := fun obj z => obj = .ref s.heap.objs.size ∧ z = { s with heap := s.heap.push (emptySet w) }) ⟨rfl, rfl⟩) fun r z hr => ?_
  rcases r with _ | fl
  case error => exact hr
  cases fl <;> first | exact hr.elim | skip
  obtain ⟨rfl, rfl⟩ := hr
  have at0 : (s.heap.push (emptySet w)).get? s.heap.objs.size = some (emptySet w) := Heap.get?_push_size _ rfl
  have ty0 : Shared.TypeIs { s with heap := s.heap.push (emptySet w) } (.ref s.heap.objs.size) "set" := ⟨_, at0, rfl⟩
  have li := F.called_set.init.lookup
  have bi := F.called_set.init.bind (.ref s.heap.objs.size)
  repeat (any_goals (first | assumption | wp_step))
  refine codeAny_mono (codeAny_call_builtin (R := wants (fun r z => r = .none ∧ Filled w s ns z) E) F.called_set.init.plain F.entry_set_init (check_set_init_1 ty0 ?_)) fun r z hz => ?_
  · obtain ⟨⟨_, od, _, os⟩, hol, hcl, nl, hdl⟩ := hl
    simp only at hcl hdl
    subst hcl
    subst hdl
    have keep : (s.heap.push (emptySet w)).get? l = some { cls := .type "list", dict := od, data := .seq items nl, slots := os } := Heap.get?_push_of_some _ hol
    have s1 := F.sub_list_set
    have s2 := F.sub_list_frozenset
    have s3 : (Value.type "list" == Value.type "dict") = false := by decide
    have isl : (s.heap.push (emptySet w)).IsList l items := ⟨_, keep, rfl, nl, rfl⟩
    unfold Builtin.«set.__init__» noKeywords Builtin.Frozenset.updateFrom
    generalize hPI : pyIter = PI
    wp_walk
    subst hPI
    refine wpAny_pyIter_list isl (wpAny_bind (wpAny_runValue ?_))
    have lt : l < s.heap.objs.size := Heap.lt_size hol
    have sz : (s.heap.push (emptySet w)).objs.size = s.heap.objs.size + 1 := Heap.size_push ..
    have ne1 : l ≠ (s.heap.push (emptySet w)).objs.size := by rw [sz]; exact Nat.ne_of_lt (Nat.lt_succ_of_lt lt)
    have ne2 : s.heap.objs.size ∉ [(s.heap.push (emptySet w)).objs.size, l] := by
      rw [sz]
      intro z
      rcases List.mem_cons.mp z with z | z
      · exact absurd z (Nat.ne_of_lt (Nat.lt_succ_self _))
      · exact absurd (List.mem_singleton.mp z) (Nat.ne_of_gt lt)
    have each : ∀ (i : Nat) (v : Value), items[i]? = some v → ∃ k t, ns[i]? = some k ∧ v = .int k t := fun i v hv => by
      have hi : i < ns.length := size ▸ (Array.getElem?_eq_some_iff.mp hv).1
      obtain ⟨t, e⟩ := IntsAre.int_at hit i v (by rw [Array.getElem?_toList]; exact hv)
      exact ⟨ns[i], t, List.getElem?_eq_getElem hi, by rw [e, List.getD_eq_getElem?_getD, List.getElem?_eq_getElem hi]; rfl⟩
    refine set_update_ints ((Walks.list (show A.in1.in1.in1.handled = none by simp [hh]) _ l ne1 items).toS) s.heap.objs.size ne2 ns size hb each (items.size - 0) 0 _ (by omega) (Nat.zero_le _) ⟨⟨_, Heap.get?_push_size _ rfl, rfl, rfl⟩, isl.push _⟩ ⟨0, Nat.le_refl 0, setR_new_at (Heap.get?_push_of_some _ at0)⟩ fun s' c hm hc hS => ?_
    obtain ⟨h', g, d, tk, o⟩ := s'
    cases (show g = s.gens from hm.gens)
    cases (show d = s.drawn from hm.drawn)
    cases (show o = s.os from hm.os)
    refine (show wpAny _ _ _ _ _ _ from wpAny_pure (show wpAny _ _ (ret Value.none) _ _ _ from wpAny_pure ⟨rfl, h', tk, c, rfl, hS, size ▸ hc, fun b o e => ?_⟩))
    have hb0 : b < s.heap.objs.size := Heap.lt_size e
    refine hm.heap b o (fun z => ?_) (Heap.get?_push_of_some _ (Heap.get?_push_of_some _ e))
    rcases List.mem_cons.mp z with z | z
    · exact absurd z (Nat.ne_of_lt hb0)
    · exact absurd ((List.mem_singleton.mp z).trans sz) (Nat.ne_of_lt (Nat.lt_succ_of_lt hb0))
  · rcases r with _ | fl
    case error => exact hz
    cases fl <;> first | exact hz.elim | skip
    obtain ⟨rfl, f⟩ := hz
    obtain ⟨h', tk, c, rfl, hS, hc, k⟩ := id f
    repeat (any_goals (first | assumption | wp_step))
    exact hq _ ⟨_, _, _, rfl, hS, hc, k⟩
end
section
variable {X : Cx}
/-- set(xs), at most 60 ints: a set of just these -/
def rSetLi (K : PySem.W.Frag) (w : World) : List V → Hp → VK → Prop := fun xs H Q => ∃ (a : Addr) (ns : List Int), xs = [V.ref a] ∧ SqL K H a (ns.map V.int) ∧ ns.length ≤ 1000 ∧
  ∀ (p : Addr) (c : Nat), H p = none → c ≤ ns.length → Q (.ref p) (upd H p (SetO w p (fun k => decide (k ∈ ns)) c))
theorem cr_setLi (hc : X.calm = true) : CallR X (.type "set") (rSetLi X.K X.w) := by
  intro pins s σ H vs us Q I r h
  obtain ⟨a, ns, rfl, hS, hl, q⟩ := h
  rw [Vals.ref1 r]
  obtain ⟨its, rv, pl, hz⟩ := I.list hS
  refine call_set_li ns (I.ok.hd hc) pl.isList (by simpa using Vals.ints rv) (by unfold scanBound; omega) fun s' f => ?_
  obtain ⟨h', tk, c, rfl, R, hcn, k⟩ := f
  have hn : H s.heap.objs.size = none := I.hok.fresh (Nat.le_refl _)
  have J : Inv X pins σ (upd H s.heap.objs.size (SetO X.w s.heap.objs.size (fun k => decide (k ∈ ns)) c)) { s with heap := h', toks := tk } := I.laid (t' := tk) k (Nat.le_refl _) (setO_new R)
  exact ⟨.ref s.heap.objs.size, _, J, rfl, q _ _ hn hcn⟩
end
end Pot

/-! The rules whose readings name the written part, with it as a letter of its own. -/
namespace Pot
open PySem PySem.Spec PyProof.Rows L2
section
variable {X : Cx} {K : PySem.W.Frag}
theorem kx_list (h : X.K = K := by rfl) : IxR X (rIxL K) := h ▸ ix_list
theorem kx_tup (h : X.K = K := by rfl) : IxR X (rIxT K) := h ▸ ix_tup
theorem kl_list (h : X.K = K := by rfl) : SlR X (rSlL K) := h ▸ sl_list
theorem kl_tup (h : X.K = K := by rfl) : SlR X (rSlA K) := h ▸ sl_tupA
theorem ko_in (h : X.K = K := by rfl) : OpR X (compareOp .In) (rIn K false) := h ▸ op_in_seq
theorem ko_eq (hu : X.A.units + 64 < cLine) (h : X.K = K := by rfl) : OpR X (compareOp .Eq) (rEqD K) := h ▸ op_eqD hu
theorem ko_ne (hu : X.A.units + 64 < cLine) (h : X.K = K := by rfl) : OpR X (compareOp .NotEq) (rNeD K) := h ▸ op_neD hu
def rLen (K : PySem.W.Frag) : List V → Hp → VK → Prop := fun xs H Q => ∃ x n, xs = [x] ∧ LenV K x H n ∧ Q (.int n) H
theorem kc_len (h : X.K = K := by rfl) : CallR X (.builtin "len") (rLen K) := by subst h; exact call_len
def rListOf (K : PySem.W.Frag) : List V → Hp → VK → Prop := fun xs H Q => ∃ p ys, xs = [.ref p] ∧ (SqL K H p ys ∨ SqT K H p ys) ∧ ∀ l, H l = none → Q (.ref l) (upd H l (.lst ys))
theorem kc_list (h : X.K = K := by rfl) : CallR X (.type "list") (rListOf K) := by subst h; exact call_list_of
def rTupleOf (K : PySem.W.Frag) : List V → Hp → VK → Prop := fun xs H Q => ∃ p ys, xs = [.ref p] ∧ ((SqL K H p ys ∧ ∀ l, H l = none → Q (.ref l) (upd H l (.tup ys))) ∨ (SqT K H p ys ∧ Q (.ref p) H))
theorem kc_tuple (h : X.K = K := by rfl) : CallR X (.type "tuple") (rTupleOf K) := by subst h; exact call_tuple_of
theorem kc_sum (hc : X.calm = true := by rfl) (h : X.K = K := by rfl) : CallR X (.builtin "sum") (rSum K) := h ▸ cr_sum hc
theorem kc_all (hc : X.calm = true := by rfl) (h : X.K = K := by rfl) : CallR X (.builtin "all") (rAll K) := h ▸ cr_all hc
theorem kc_any (hc : X.calm = true := by rfl) (h : X.K = K := by rfl) : CallR X (.builtin "any") (rAny K) := h ▸ cr_any hc
theorem kc_sorted (h : X.K = K := by rfl) : CallR X (.builtin "sorted") (rSorted K) := h ▸ cr_sorted
theorem kc_sortedS (h : X.K = K := by rfl) : CallR X (.builtin "sorted") (rSortedS K) := h ▸ cr_sortedS
theorem kc_isi (h : X.K = K := by rfl) : CallR X (.builtin "isinstance") (rIsi K) := h ▸ call_isi
theorem kc_isiT (h : X.K = K := by rfl) : CallR X (.builtin "isinstance") (rIsiT K) := h ▸ call_isiT
theorem kc_repr (gd : X.A.guards = some []) (hu : X.A.units + 64 < cLine) (h : X.K = K := by rfl) : CallR X (.builtin "repr") (rRepr K) := h ▸ cr_repr gd hu
theorem kc_setLi {w : World} (hc : X.calm = true := by rfl) (h : X.K = K := by rfl) (hw : X.w = w := by rfl) : CallR X (.type "set") (rSetLi K w) := by subst h; subst hw; exact cr_setLi hc
theorem kc_sortedSet {w : World} (hc : X.calm = true := by rfl) (hw : X.w = w := by rfl) : CallR X (.builtin "sorted") (rSortedSet w) := hw ▸ cr_sortedSet hc
theorem ki_list {tg l : Expr} {tl : TE} (hl : PE X l tl) (h : X.K = K := by rfl) : PI X tg l (iList K tl) := h ▸ pi_list hl
theorem ki_tup {tg l : Expr} {tl : TE} (hl : PE X l tl) (h : X.K = K := by rfl) : PI X tg l (iTup K tl) := h ▸ pi_tup hl
theorem ki_zip {e e2 : Expr} {ta : TA} {p pos tpos : Pos} {elts : List Expr} {kk : Nat} (hg : Gl X "zip") (hm : X.mg "zip" = none) (ha : PA X [e, e2] ta) (hs : starEach [e, e2] X.env = (false, eval e X.env) :: starEach [e2] X.env := by rfl)
    (hpl : (backTo pos (starEach [e2] X.env)).any (·.1) = false := by rfl) (h : X.K = K := by rfl) : PI X (.Tuple elts kk tpos) (.Call (.Name "zip" p) [e, e2] [] pos) (RZ.iZipA K ta) := h ▸ RZ.pi_zipA hg hm ha hs hpl
theorem ki_enum {e : Expr} {ta : TA} {p pos tpos : Pos} {elts : List Expr} {kk : Nat} (hg : Gl X "enumerate") (hm : X.mg "enumerate" = none) (ha : PA X [e] ta) (hs : starEach [e] X.env = [(false, eval e X.env)] := by rfl) (h : X.K = K := by rfl)
    : PI X (.Tuple elts kk tpos) (.Call (.Name "enumerate" p) [e] [] pos) (iEnum K ta) := h ▸ pi_enum hg hm ha hs
theorem kg_tup {pos : Pos} {es : List Expr} {k : Nat} {t : TGs} {n : Nat} (h : PGs X es t) (hc : X.calm = true := by rfl) (hn : (assignEach es X.env).length = n := by rfl) (hst : (assignEach es X.env).findIdx? (·.1) = none := by rfl) (hk : X.K = K := by rfl) : PG X (.Tuple es k pos) (gTup K n t) := hk ▸ pg_tup hc h hn hst
def tTru (K : PySem.W.Frag) (ta : TE) : TT := fun σ H Q => ta σ H fun x H' => ∃ k, TruV K x H' k ∧ Q k H'
theorem kt_truth {a : Expr} {ta : TE} (ha : PE X a ta) (he : ∀ whole, isTrue a X.env whole = (do let v ← whole; standAt a.pos; holding [v] (truthy v)) := by intro _; rfl) (h : X.K = K := by rfl) : PT X a (tTru K ta) := by subst h; exact pt_truth ha he
def rJoin (K : PySem.W.Frag) : V → List V → Hp → VK → Prop := fun x xs H Q => ∃ a p, ∃ ys : List Str, x = .str a ∧ xs = [.ref p] ∧ (SqL K H p (ys.map V.str) ∨ SqT K H p (ys.map V.str)) ∧ (ys.map (·.length)).sum + ys.length * a.length ≤ 16777216 ∧ Q (.str (Txt.join a ys)) H
theorem ke_join {o e : Expr} {to te : TE} {apos pos : Pos} (ho : PE X o to) (he : PE X e te) (hs : starEach [e] X.env = [(false, eval e X.env)] := by rfl) (hbase : attributeBase o "join" X.env (eval o X.env) = eval o X.env := by rfl) (hline : (apos.endLine == pos.line) = true := by rfl) (h : X.K = K := by rfl) :
    PE X (.Call (.Attribute o "join" apos) [e] [] pos) (tM1 (rJoin K) to te) := by subst h; exact pe_join ho he hs hbase hline
theorem pss_never {st : List Stmt} : PSs X st (fun _ _ _ => False) := ⟨fun _ _ _ _ _ _ h => h.elim⟩
theorem ps_never {st : Stmt} : PS X st (fun _ _ _ => False) := ⟨fun _ _ _ _ _ _ h => h.elim⟩
theorem pe_never {e : Expr} : PE X e (fun _ _ _ => False) := ⟨fun _ _ _ _ _ _ h => h.elim⟩
theorem tYes_at {σ : L2.St} {H : Hp} {Q : Bool → Hp → Prop} (h : Q true H) : tYes σ H Q := h
end
end Pot

namespace Pot
open PySem PySem.Spec PyProof.Rows L2
/-- built-in names that the module gives no other meaning -/
structure Txt (mg : Str → Option Value) : Prop where
  len : mg "len" = none
  divmod : mg "divmod" = none
  range : mg "range" = none
  sum : mg "sum" = none
  all : mg "all" = none
  any : mg "any" = none
  isinstance : mg "isinstance" = none
  str : mg "str" = none
  int : mg "int" = none
  list : mg "list" = none
  tuple : mg "tuple" = none
  bool : mg "bool" = none
  zip : mg "zip" = none
  set : mg "set" = none
  sorted : mg "sorted" = none
  enumerate : mg "enumerate" = none
  repr : mg "repr" = none
  min : mg "min" = none
  max : mg "max" = none
  abs : mg "abs" = none
/-- a def that may be called by its name: what it keeps, at which level -/
def Cl (P : Program) (w : World) (K : PySem.W.Frag) (mg : Str → Option Value) (base : Heap) (k : Nat) (x : Str) (sp : Sp) : Prop :=
  ∃ (f : Addr) (fd : FuncData) (ps : List Str), FnOk P w K mg base CX0 k f fd ps sp ∧ mg x = some (.ref f) ∧ PySem.W.keepIn K (.ref f) = true ∧ Binds K fd ps []
theorem pe_cl {X : Cx} {k j : Nat} {x : Str} {sp : Sp} {e : Expr} {es : List Expr} {t : TA} {p pos : Pos} (c : Cl X.prog X.w X.K X.mg X.base k x sp) (hr : Room j X.A) (hk : k ≤ j) (hg : Gl X x) (ha : PA X (e :: es) t) (hdb : (x == ("__debug__" : Str)) = false := by decide)
    (he : starEach (e :: es) X.env = (false, eval e X.env) :: starEach es X.env := by rfl) (hpl : (backTo pos (starEach es X.env)).any (·.1) = false := by rfl) : PE X (.Call (.Name x p) (e :: es) [] pos) (tCall sp [] E0 t) := by
  obtain ⟨f, fd, ps, G, hm, kp, b⟩ := c
  exact pe_call G (hr.mono hk) hg hm kp b .nil pass0 ha hdb he hpl
/-! ### the drawing state -/
def dS (c : Addr) (t : Int) : List (Key × V) := [(Sum.inr "cells", .ref c), (Sum.inr "turn", .int t)]
/-- at d stands a state of the law: its cells at c, its turn at most n -/
def StAt (H : Hp) (d c : Addr) (n : Nat) : Prop := d ≠ c ∧ ∃ (xs : List Int) (t : Int),
  H d = some (.dK (dS c t)) ∧ H c = some (.lst (xs.map V.int)) ∧ xs ≠ [] ∧ xs.length ≤ 63 ∧ 0 ≤ t ∧ t ≤ n
/-- all that was tracked stands, but d and c -/
def Kp (d c : Addr) (H H' : Hp) : Prop := ∀ b o, b ≠ d → b ≠ c → H b = some o → H' b = some o
theorem Kp.refl (d c : Addr) (H : Hp) : Kp d c H H := fun _ _ _ _ e => e
theorem Kp.trans {d c : Addr} {H H1 H2 : Hp} (a : Kp d c H H1) (b : Kp d c H1 H2) : Kp d c H H2 := fun x o h1 h2 e => b x o h1 h2 (a x o h1 h2 e)
theorem Kp.of {d c : Addr} {H H' : Hp} (s : Same H H') : Kp d c H H' := fun x o _ _ e => s x o e
theorem same_upd {H : Hp} {p : Addr} {o : HO} (h : H p = none) : Same H (upd H p o) := fun b x e => by
  rw [upd_ne (ne_of_none e h)]
  exact e
theorem same_put {H H' : Hp} {p : Addr} {o : HO} (s : Same H H') (h : H p = none) : Same H (upd H' p o) := fun b x e => by
  rw [upd_ne (ne_of_none e h)]
  exact s b x e
theorem kp_put {d c : Addr} {H H' : Hp} {p : Addr} {o : HO} (s : Kp d c H H') (h : H p = none) : Kp d c H (upd H' p o) := fun b x h1 h2 e => by
  rw [upd_ne (ne_of_none e h)]
  exact s b x h1 h2 e
theorem StAt.mono {H : Hp} {d c : Addr} {n m : Nat} (h : StAt H d c n) (k : n ≤ m) : StAt H d c m := by
  obtain ⟨h0, xs, t, h1, h2, h3, h4, h5, h6⟩ := h
  exact ⟨h0, xs, t, h1, h2, h3, h4, h5, by omega⟩
theorem StAt.same {H H' : Hp} {d c : Addr} {n : Nat} (h : StAt H d c n) (s : Same H H') : StAt H' d c n := by
  obtain ⟨h0, xs, t, h1, h2, h3, h4, h5, h6⟩ := h
  exact ⟨h0, xs, t, s _ _ h1, s _ _ h2, h3, h4, h5, h6⟩
theorem Kp.free {d c : Addr} {H H' : Hp} {n : Nat} {l : Addr} (k : Kp d c H H') (s : StAt H' d c n) (h : H' l = none) : H l = none := by
  obtain ⟨_, xs, t, h1, h2, _⟩ := s
  have n1 : l ≠ d := (ne_of_none h1 h).symm
  have n2 : l ≠ c := (ne_of_none h2 h).symm
  cases e : H l with
  | none => rfl
  | some o =>
    rw [k l o n1 n2 e] at h
    cases h
theorem StAt.ne1 {H : Hp} {d c : Addr} {n : Nat} {l : Addr} (s : StAt H d c n) (h : H l = none) : d ≠ l := by
  obtain ⟨_, xs, t, h1, h2, _⟩ := s
  exact ne_of_none h1 h
theorem StAt.ne2 {H : Hp} {d c : Addr} {n : Nat} {l : Addr} (s : StAt H d c n) (h : H l = none) : c ≠ l := by
  obtain ⟨_, xs, t, h1, h2, _⟩ := s
  exact ne_of_none h2 h
theorem StAt.put {H : Hp} {d c : Addr} {n : Nat} {l : Addr} {o : HO} (s : StAt H d c n) (n1 : d ≠ l) (n2 : c ≠ l) : StAt (upd H l o) d c n := by
  obtain ⟨h0, xs, t, h1, h2, h3, h4, h5, h6⟩ := s
  exact ⟨h0, xs, t, by rw [upd_ne n1]; exact h1, by rw [upd_ne n2]; exact h2, h3, h4, h5, h6⟩
theorem val_turn (c : Addr) (t : Int) : valV (dS c t) (Sum.inr "turn") = some (.int t) := by
  have e : ¬ ((Sum.inr (Str.ofString "cells") : Key) = Sum.inr (Str.ofString "turn")) := by decide +kernel
  unfold dS; rw [valV_neg e, valV_pos rfl]
theorem val_cells (c : Addr) (t : Int) : valV (dS c t) (Sum.inr "cells") = some (.ref c) := by
  unfold dS; rw [valV_pos rfl]
theorem put_turn (c : Addr) (t u : Int) : putK (dS c t) (Sum.inr "turn") (.int u) = dS c u := by
  have e : ¬ ((Sum.inr (Str.ofString "cells") : Key) = Sum.inr (Str.ofString "turn")) := by decide +kernel
  unfold putK dS
  simp [e]

theorem dget_turn {H : Hp} {d c : Addr} {t : Int} (h : H d = some (.dK (dS c t))) : DGet H d (.str "turn") (some (.int t)) := by
  rw [← val_turn c t]; exact DGet.k (k := Sum.inr "turn") h
theorem dget_cells {H : Hp} {d c : Addr} {t : Int} (h : H d = some (.dK (dS c t))) : DGet H d (.str "cells") (some (.ref c)) := by
  rw [← val_cells c t]; exact DGet.k (k := Sum.inr "cells") h
theorem dput_turn {H : Hp} {d c : Addr} {t : Int} (u : Int) (h : H d = some (.dK (dS c t))) : DPut H d (.str "turn") (.int u) (upd H d (.dK (dS c u))) := by
  rw [← put_turn c t u]; exact DPut.k (k := Sum.inr "turn") h (by show 2 < sizeLine; decide)
theorem ge18 (x : Int) : (decide ((10 : Int) ^ (18 : Int).toNat ≤ x) = true) ↔ 1000000000000000000 ≤ x := by
  have e : (10 : Int) ^ (18 : Int).toNat = 1000000000000000000 := by decide
  rw [e, decide_eq_true_eq]
theorem cmul_mod (a b : Int) {m : Int} (h0 : 0 < m) (h1 : m < 2 ^ 64) : CMul (a % m) b := by
  have p := Int.emod_nonneg a (show m ≠ 0 by omega)
  have q := Int.emod_lt_of_pos a h0
  exact .inl ⟨by omega, by omega⟩
theorem mod_at {xs : List Int} {u : Int} (hx : xs ≠ []) : ∃ (j : Nat) (y : Int), u % ((xs.map V.int).length : Int) = (j : Int) ∧ j < xs.length ∧ xs[j]? = some y := by
  have h0 : 0 < xs.length := List.length_pos_iff.mpr hx
  rw [List.length_map]
  have a := Int.emod_nonneg u (show (xs.length : Int) ≠ 0 by omega)
  have b := Int.emod_lt_of_pos u (show (0 : Int) < (xs.length : Int) by omega)
  refine ⟨(u % (xs.length : Int)).toNat, xs[(u % (xs.length : Int)).toNat]'(by omega), by omega, by omega, ?_⟩
  exact List.getElem?_eq_getElem _

section
variable {K : PySem.W.Frag}
theorem cut63 {xs : List V} (h : xs.length ≤ 63) : cutV xs none (some 63) = xs := by
  unfold cutV
  rw [HT.sIx_none, show HT.sIx xs.length xs.length (some 63) = min 63 xs.length from HT.sIx_nat xs.length xs.length 63, Nat.min_eq_right h]
  simp
theorem dp_ints {H : Hp} (ns : List Int) : DpAll K H (ns.map V.int) (ns.map PyData.int) := by
  induction ns with
  | nil => exact .nil
  | cons n r ih => exact .cons (.int n) ih
theorem same_tup {H H' : Hp} {a : Addr} {xs : List V} (e : Same H H') (h : SqT K H a xs) : SqT K H' a xs := by
  rcases h with (h | ⟨o, h⟩) | h
  · exact .inl (.inl (e _ _ h))
  · exact .inl (.inr ⟨o, e _ _ h⟩)
  · exact .inr h
mutual
theorem dp_same {H H' : Hp} (s : Same H H') : ∀ {v : V} {d : PyData}, Dp K H v d → Dp K H' v d
  | _, _, .non => .non
  | _, _, .bl b => .bl b
  | _, _, .int i => .int i
  | _, _, .str x => .str x
  | _, _, .lst h a => .lst (s.seq h) (dpAll_same s a)
  | _, _, .tup h a => .tup (same_tup s h) (dpAll_same s a)
theorem dpAll_same {H H' : Hp} (s : Same H H') : ∀ {vs : List V} {ds : List PyData}, DpAll K H vs ds → DpAll K H' vs ds
  | _, _, .nil => .nil
  | _, _, .cons h t => .cons (dp_same s h) (dpAll_same s t)
end
theorem dpAll_len {H : Hp} : ∀ {vs : List V} {ds : List PyData}, DpAll K H vs ds → vs.length = ds.length
  | _, _, .nil => rfl
  | _, _, .cons _ t => by rw [List.length_cons, List.length_cons, dpAll_len t]
theorem dpAll_at {H : Hp} : ∀ {vs : List V} {ds : List PyData} {i : Nat} {v : V}, DpAll K H vs ds → vs[i]? = some v → ∃ d, ds[i]? = some d ∧ Dp K H v d
  | _, _, _, _, .nil, h => by simp at h
  | _, _, 0, _, .cons h _, e => ⟨_, rfl, by cases e; exact h⟩
  | _, _, i + 1, _, .cons _ t, e => dpAll_at (i := i) t e
theorem depth_at : ∀ {ds : List PyData} {i : Nat} {d : PyData}, ds[i]? = some d → d.depth ≤ PyData.depthAll ds
  | [], _, _, h => by simp at h
  | x :: r, 0, d, h => by cases h; unfold PyData.depthAll; exact Nat.le_max_left ..
  | x :: r, i + 1, d, h => by
    have := depth_at (ds := r) (i := i) (d := d) h
    unfold PyData.depthAll
    exact Nat.le_trans this (Nat.le_max_right ..)
theorem tyx_list {H : Hp} {a : Addr} {xs : List V} (h : SqL K H a xs) : TyX K H (.ref a) (.type "list") := by
  rcases h with (h | ⟨o, h⟩) | ⟨o, its, n, h1, h2, _⟩
  · exact .base (.lst h)
  · exact .base (.frz h)
  · exact .kList h1 h2
theorem tyx_tup {H : Hp} {a : Addr} {xs : List V} (h : SqT K H a xs) : TyX K H (.ref a) (.type "tuple") := by
  rcases h with (h | ⟨o, h⟩) | ⟨o, its, n, h1, h2, _⟩
  · exact .base (.tup h)
  · exact .fTuple h
  · exact .kTuple h1 h2
theorem walk_zipT {a b : Addr} {xs ys : List V} {n : Nat} (hn : n = min xs.length ys.length) : Walk (RZ.ItzT K a b) n (fun H => SqT K H a xs ∧ SqT K H b ys) (YPair (fun i => xs[i]?) (fun i => ys[i]?)) := by
  subst hn
  refine ⟨fun i _ hi q => ?_, fun _ q => ⟨xs, ys, q.1, q.2, by omega⟩, fun i H v H' _ q y => ?_⟩
  · exact ⟨xs, ys, xs[i]'(by omega), ys[i]'(by omega), q.1, q.2, List.getElem?_eq_getElem _, List.getElem?_eq_getElem _⟩
  · obtain ⟨T, x, z, e1, e2, e3, e4, e5⟩ := y
    exact ⟨T, x, z, e1, e2, e3, e4 xs q.1, e5 ys q.2⟩
/-- the longest list within -/
def widAll : List PyData → Nat
  | [] => 0
  | x :: xs => max (wid x) (widAll xs)
where wid : PyData → Nat
  | .list xs => max xs.length (widAll xs)
  | .tuple xs => max xs.length (widAll xs)
  | _ => 0
theorem wid_at : ∀ {ds : List PyData} {i : Nat} {d : PyData}, ds[i]? = some d → widAll.wid d ≤ widAll ds
  | [], _, _, h => by simp at h
  | x :: r, 0, d, h => by cases h; unfold widAll; exact Nat.le_max_left ..
  | x :: r, i + 1, d, h => by
    have := wid_at (ds := r) (i := i) (d := d) h
    unfold widAll
    exact Nat.le_trans this (Nat.le_max_right ..)
theorem depth_ints (ns : List Int) : (PyData.list (ns.map PyData.int)).depth = 1 := by
  have h : ∀ l : List Int, PyData.depthAll (l.map PyData.int) = 0 := by
    intro l
    induction l with
    | nil => rfl
    | cons x r ih =>
      show max 0 (PyData.depthAll (r.map PyData.int)) = 0
      rw [ih]
      rfl
  show PyData.depthAll (ns.map PyData.int) + 1 = 1
  rw [h]
theorem wid_ints (ns : List Int) : widAll.wid (PyData.list (ns.map PyData.int)) = ns.length := by
  have h : ∀ l : List Int, widAll (l.map PyData.int) = 0 := by
    intro l
    induction l with
    | nil => rfl
    | cons x r ih =>
      show max 0 (widAll (r.map PyData.int)) = 0
      rw [ih]
      rfl
  show max (ns.map PyData.int).length (widAll (ns.map PyData.int)) = ns.length
  rw [h, List.length_map, Nat.max_zero]
theorem flat_ints (ns : List Int) : (ns.map V.int).all flatV = true := by
  rw [List.all_eq_true]
  intro x hx
  obtain ⟨k, _, rfl⟩ := List.mem_map.mp hx
  rfl
end
section
variable {P : Program} {w : World} {K : PySem.W.Frag} {mg : Str → Option Value} {base : Heap}
/-- a def with values that may be left out -/
abbrev FunV (K : PySem.W.Frag) (x : Str) (st : Stmt) (dvs : List V) (f : Addr) (fd : FuncData) : Prop := FunD K x x (defArgs st) (defBody st) (defScope st) dvs [] f fd
theorem okD {x : Str} {st : Stmt} {dvs : List V} {f : Addr} {fd : FuncData} {N ps : List Str} {k : Nat} {sp : Sp} (F : FunV K x st dvs f fd) (S : FnScope N ps (defScope st)) (len : ∀ vs H Q E, sp vs H Q E → vs.length = ps.length)
    (body : ∀ (cdv : Value) (A : Around) (outer : List Env) (s : Shared) (H : Hp) (vs : List V) (Q : VK) (E : XK), Room k (A.deeper (envOfC x (defScope st) s.heap.objs.size f cdv)) → sp vs H Q E →
      ∃ t, PSs (cxOf CX0 P w K mg base N x (defScope st) f cdv A outer s H E).nox (defBody st) t ∧ t { nx := fun _ H' => Q .non H', rt := Q } (start N vs) H) : FnOk P w K mg base CX0 (k + 1) f fd ps sp :=
  FunD.ok F S len fun cdv A outer s H vs Q E hr h => by
    obtain ⟨t, ht, hq⟩ := body cdv A outer s H vs Q E hr h
    exact ⟨t, ht.nox, hq⟩
/-- a def that may be called by its name, the values ds being left out -/
def ClD (P : Program) (w : World) (K : PySem.W.Frag) (mg : Str → Option Value) (base : Heap) (k : Nat) (x : Str) (ds : List V) (sp : Sp) : Prop :=
  ∃ (f : Addr) (fd : FuncData) (ps : List Str) (dus : List Value), FnOk P w K mg base CX0 k f fd ps sp ∧ mg x = some (.ref f) ∧ PySem.W.keepIn K (.ref f) = true ∧ Binds K fd ps dus ∧ Vals ds dus
theorem pe_cd {X : Cx} {k j : Nat} {x : Str} {ds : List V} {sp : Sp} {e : Expr} {es : List Expr} {t : TA} {p pos : Pos} (c : ClD X.prog X.w X.K X.mg X.base k x ds sp) (hr : Room j X.A) (hk : k ≤ j) (hg : Gl X x) (ha : PA X (e :: es) t) (hdb : (x == ("__debug__" : Str)) = false := by decide)
    (he : starEach (e :: es) X.env = (false, eval e X.env) :: starEach es X.env := by rfl) (hpl : (backTo pos (starEach es X.env)).any (·.1) = false := by rfl) : PE X (.Call (.Name x p) (e :: es) [] pos) (tCall sp ds E0 t) := by
  obtain ⟨f, fd, ps, dus, G, hm, kp, b, dv⟩ := c
  exact pe_call G (hr.mono hk) hg hm kp b dv pass0 ha hdb he hpl
theorem Cl.mono {k j : Nat} {x : Str} {sp : Sp} (c : Cl P w K mg base k x sp) (h : k ≤ j) : Cl P w K mg base j x sp := by
  obtain ⟨f, fd, ps, G, r⟩ := c
  exact ⟨f, fd, ps, G.mono h, r⟩
end
end Pot

namespace Pot
open PySem PySem.Spec PyProof.Rows L2
/-! ### a box of three numbers from which is drawn, and all that stands beside it -/
def Bx (H : Hp) (b : Addr) : Prop := ∃ x y z : Int, H b = some (.lst [.int x, .int y, .int z])
/-- the heap without some -/
def off (H : Hp) (S : List Addr) : Hp := fun x => if x ∈ S then none else H x
theorem off_in {H : Hp} {S : List Addr} {x : Addr} (h : x ∈ S) : off H S x = none := if_pos h
theorem off_out {H : Hp} {S : List Addr} {x : Addr} (h : x ∉ S) : off H S x = H x := if_neg h
theorem off_mem {H : Hp} {S : List Addr} {x : Addr} {o : HO} (h : off H S x = some o) : x ∉ S := fun e => by rw [off_in e] at h; cases h
theorem off_sub {H : Hp} {S : List Addr} : Same (off H S) H := fun x o h => by
  have n := off_mem h
  rw [off_out n] at h; exact h
theorem off_mono {H : Hp} {S T : List Addr} (h : ∀ x ∈ T, x ∈ S) : Same (off H S) (off H T) := fun x o e => by
  have n := off_mem e
  rw [off_out n] at e
  rw [off_out fun z => n (h x z)]; exact e
/-- what stands beside S stands -/
abbrev Sm (S : List Addr) (H H' : Hp) : Prop := Same (off H S) (off H' S)
theorem sm_mono {H H' : Hp} {S T : List Addr} (h : ∀ x ∈ T, x ∈ S) (s : Sm T H H') : Sm S H H' := fun x o e => by
  have n := off_mem e
  rw [off_out n] at e ⊢
  have n2 : x ∉ T := fun z => n (h x z)
  have := s x o (by rw [off_out n2]; exact e)
  rw [off_out n2] at this; exact this
theorem sm_one {H H' : Hp} {S : List Addr} {b : Addr} (h : b ∈ S) (s : Sm [b] H H') : Sm S H H' := sm_mono (fun x hx => by rw [List.mem_singleton.mp hx]; exact h) s
theorem sm_of {H H' : Hp} {S : List Addr} (s : Same H H') : Sm S H H' := fun x o h => by
  have n := off_mem h
  rw [off_out n] at h ⊢; exact s x o h
theorem sm_put {H : Hp} {S : List Addr} {p : Addr} {o : HO} (h : H p = none) : Sm S H (upd H p o) := sm_of (same_upd h)
theorem sm_wr {H : Hp} {S : List Addr} {p : Addr} {o : HO} (h : p ∈ S) : Sm S H (upd H p o) := fun x u e => by
  have n := off_mem e
  rw [off_out n] at e ⊢
  have ne : x ≠ p := fun z => n (by rw [z]; exact h)
  rw [upd_ne ne]; exact e
theorem at_off {H : Hp} {S : List Addr} {x : Addr} {o : HO} (h : off H S x = some o) : H x = some o := off_sub x o h
theorem Bx.bx {H : Hp} {b : Addr} (B : Bx H b) : Bx H b := B
theorem Bx.ne {H : Hp} {b p : Addr} (B : Bx H b) (h : H p = none) : p ≠ b := fun e => by
  obtain ⟨x, y, z, B⟩ := B
  rw [e, B] at h; cases h
theorem Bx.same {H H' : Hp} {b : Addr} (B : Bx H b) (s : Same H H') : Bx H' b := by
  obtain ⟨x, y, z, B⟩ := B
  exact ⟨x, y, z, s _ _ B⟩
theorem Bx.put {H : Hp} {b p : Addr} {o : HO} (B : Bx H b) (h : H p = none) : Bx (upd H p o) b := B.same (same_upd h)
theorem Bx.wr {H : Hp} {b p : Addr} {o : HO} (B : Bx H b) (h : p ≠ b) : Bx (upd H p o) b := by
  obtain ⟨x, y, z, B⟩ := B
  exact ⟨x, y, z, by rw [upd_ne h.symm]; exact B⟩
/-- all of S are there -/
def Live (S : List Addr) (H : Hp) : Prop := ∀ s ∈ S, H s ≠ none
theorem Live.same {S : List Addr} {H H' : Hp} (L : Live S H) (s : Same H H') : Live S H' := fun x hx e => by
  cases h : H x with
  | none => exact L x hx h
  | some o => rw [s x o h] at e; cases e
theorem Live.box {S : List Addr} {H H' : Hp} {b : Addr} (L : Live S H) (B : Bx H' b) (s : Sm [b] H H') : Live S H' := fun x hx e => by
  by_cases hb : x = b
  · obtain ⟨_, _, _, B⟩ := B
    rw [hb, B] at e; cases e
  · have n : x ∉ [b] := fun z => hb (List.mem_singleton.mp z)
    cases h : H x with
    | none => exact L x hx h
    | some o =>
      have := s x o (by rw [off_out n]; exact h)
      rw [off_out n, e] at this; cases this
theorem Live.put {S : List Addr} {H : Hp} {p : Addr} {o : HO} (L : Live S H) (h : H p = none) : Live S (upd H p o) := L.same (same_upd h)
theorem Live.wr {S : List Addr} {H : Hp} {p : Addr} {o : HO} (L : Live S H) : Live S (upd H p o) := fun x hx e => by
  by_cases hp : x = p
  · rw [hp, upd_same] at e; cases e
  · rw [upd_ne hp] at e; exact L x hx e
theorem Live.one {H : Hp} {b : Addr} (B : Bx H b) : Live [b] H := fun x hx e => by
  obtain ⟨_, _, _, B⟩ := B
  rw [List.mem_singleton.mp hx, B] at e; cases e
theorem Live.out {S : List Addr} {H : Hp} {p : Addr} (L : Live S H) (h : H p = none) : p ∉ S := fun z => L p z h
theorem Live.cons {S : List Addr} {H : Hp} {p : Addr} {o : HO} (L : Live S H) (h : H p = some o) : Live (p :: S) H := fun x hx e => by
  rcases List.mem_cons.mp hx with z | z
  · rw [z, h] at e; cases e
  · exact L x z e
theorem off_new {H : Hp} {S : List Addr} {p : Addr} {o : HO} (L : Live S H) (h : H p = none) : off (upd H p o) S p = some o := by
  rw [off_out (L.out h)]; exact upd_same
theorem off_upd {H : Hp} {S : List Addr} {p : Addr} {o : HO} (h : p ∉ S) : off (upd H p o) S p = some o := by
  rw [off_out h]; exact upd_same
section
variable {K : PySem.W.Frag}
theorem sq_off {H : Hp} {S : List Addr} {a : Addr} {xs : List V} (h : SqL K (off H S) a xs) : SqL K H a xs := off_sub.seq h
theorem sqt_off {H : Hp} {S : List Addr} {a : Addr} {xs : List V} (h : SqT K (off H S) a xs) : SqT K H a xs := same_tup off_sub h
theorem dp_off {H : Hp} {S : List Addr} {v : V} {d : PyData} (h : Dp K (off H S) v d) : Dp K H v d := dp_same off_sub h
/-- a new list is none of S, beside which the rest stands as it was -/
theorem off_fresh {H : Hp} {S : List Addr} {p : Addr} {o : HO} (h : H p = none) : off (upd H p o) (p :: S) = off H S := by
  funext x; unfold off
  by_cases e : x = p
  · subst e
    rw [if_pos List.mem_cons_self, h]
    split <;> rfl
  · have : (x ∈ p :: S) ↔ x ∈ S := by rw [List.mem_cons]; exact ⟨fun z => z.resolve_left e, .inr⟩
    by_cases m : x ∈ S
    · rw [if_pos m, if_pos (this.mpr m)]
    · rw [if_neg m, if_neg fun z => m (this.mp z), upd_ne e]
end
/-! ### what is made of numbers, texts, truths, None, lists and tuples -/
/-- numbers within m, texts of at most 2000 signs -/
def gdAll (m : Nat) : List PyData → Prop
  | [] => True
  | x :: xs => gd m x ∧ gdAll m xs
where gd (m : Nat) : PyData → Prop
  | .none => True
  | .bool _ => True
  | .int i => i.natAbs ≤ m
  | .str x => x.length ≤ 2000 ∧ ∀ c ∈ x.cps.toList, c < 1114112
  | .list xs => gdAll m xs
  | .tuple xs => gdAll m xs
  | .dict _ => False
abbrev gd (m : Nat) (d : PyData) : Prop := gdAll.gd m d
theorem gdAll_iff {m : Nat} : ∀ {ds : List PyData}, gdAll m ds ↔ ∀ d ∈ ds, gd m d
  | [] => ⟨fun _ _ h => (List.not_mem_nil h).elim, fun _ => trivial⟩
  | x :: xs => by
    constructor
    · intro h d hd
      rcases List.mem_cons.mp hd with e | e
      · rw [e]; exact h.1
      · exact gdAll_iff.mp h.2 d e
    · intro h
      exact ⟨h x List.mem_cons_self, gdAll_iff.mpr fun d hd => h d (List.mem_cons_of_mem _ hd)⟩
mutual
theorem gd_mono {m n : Nat} (h : m ≤ n) : ∀ d : PyData, gd m d → gd n d
  | .none, _ => trivial
  | .bool _, _ => trivial
  | .int i, g => Nat.le_trans g h
  | .str _, g => g
  | .list xs, g => gdAll_mono h xs g
  | .tuple xs, g => gdAll_mono h xs g
  | .dict _, g => g.elim
theorem gdAll_mono {m n : Nat} (h : m ≤ n) : ∀ ds : List PyData, gdAll m ds → gdAll n ds
  | [], _ => trivial
  | x :: xs, g => ⟨gd_mono h x g.1, gdAll_mono h xs g.2⟩
end
theorem log_small' {i : Int} (h : i.natAbs ≤ 2000000) : i.natAbs.log2 < 1920 := by
  by_cases z : i.natAbs = 0
  · rw [z]; decide
  · have := (Nat.log2_lt z).mpr (show i.natAbs < 2 ^ 21 from Nat.lt_of_le_of_lt h (by decide))
    omega
mutual
theorem gd_fine {m : Nat} (h : m ≤ 2000000) : ∀ d : PyData, gd m d → fineAll.fine d
  | .none, _ => trivial
  | .bool _, _ => trivial
  | .int i, g => log_small' (Nat.le_trans g h)
  | .str _, g => fun c hc => Nat.lt_trans (g.2 c hc) (by decide)
  | .list xs, g => gdAll_fine h xs g
  | .tuple xs, g => gdAll_fine h xs g
  | .dict _, g => g.elim
theorem gdAll_fine {m : Nat} (h : m ≤ 2000000) : ∀ ds : List PyData, gdAll m ds → fineAll ds
  | [], _ => trivial
  | x :: xs, g => ⟨gd_fine h x g.1, gdAll_fine h xs g.2⟩
end
theorem costAll_app (xs ys : List PyData) : costAll (xs ++ ys) = costAll xs + costAll ys := by
  induction xs with
  | nil => simp [costAll]
  | cons x xs ih => simp only [List.cons_append, costAll, ih]; omega
theorem cost_mem {ds : List PyData} {d : PyData} (h : d ∈ ds) : costAll.cost d + 2 ≤ costAll ds := by
  induction ds with
  | nil => exact (List.not_mem_nil h).elim
  | cons x xs ih =>
    show _ ≤ costAll.cost x + 2 + costAll xs
    rcases List.mem_cons.mp h with e | e
    · rw [e]; omega
    · have := ih e; omega
theorem len_cost : ∀ ds : List PyData, 2 * ds.length ≤ costAll ds
  | [] => Nat.le_refl _
  | x :: xs => by
    have := len_cost xs
    show 2 * (xs.length + 1) ≤ costAll.cost x + 2 + costAll xs
    omega
theorem depthAll_iff {D : Nat} : ∀ {ds : List PyData}, PyData.depthAll ds ≤ D ↔ ∀ d ∈ ds, d.depth ≤ D
  | [] => ⟨fun _ _ h => (List.not_mem_nil h).elim, fun _ => Nat.zero_le _⟩
  | x :: xs => by
    show max x.depth (PyData.depthAll xs) ≤ D ↔ _
    rw [Nat.max_le, depthAll_iff (ds := xs)]
    constructor
    · rintro ⟨h1, h2⟩ d hd
      rcases List.mem_cons.mp hd with e | e
      · rw [e]; exact h1
      · exact h2 d e
    · intro h
      exact ⟨h x List.mem_cons_self, fun d hd => h d (List.mem_cons_of_mem _ hd)⟩
/-- rows of parts: of numbers within m, their cost, how deep and how wide each -/
structure Ths (m C D W : Nat) (ds : List PyData) : Prop where
  g : ∀ d ∈ ds, gd m d
  c : costAll ds ≤ C
  d : ∀ d ∈ ds, d.depth ≤ D
  w : ∀ d ∈ ds, widAll.wid d ≤ W
/-- a thing: of numbers within m, its cost, how deep, how wide -/
structure Th (m C D W : Nat) (dd : PyData) : Prop where
  g : gd m dd
  c : costAll.cost dd ≤ C
  d : dd.depth ≤ D
  w : widAll.wid dd ≤ W
theorem widAll_iff {D : Nat} : ∀ {ds : List PyData}, widAll ds ≤ D ↔ ∀ d ∈ ds, widAll.wid d ≤ D
  | [] => ⟨fun _ _ h => (List.not_mem_nil h).elim, fun _ => Nat.zero_le _⟩
  | x :: xs => by
    show max (widAll.wid x) (widAll xs) ≤ D ↔ _
    rw [Nat.max_le, widAll_iff (ds := xs)]
    constructor
    · rintro ⟨h1, h2⟩ d hd
      rcases List.mem_cons.mp hd with e | e
      · rw [e]; exact h1
      · exact h2 d e
    · intro h
      exact ⟨h x List.mem_cons_self, fun d hd => h d (List.mem_cons_of_mem _ hd)⟩
section
variable {m n C E D F W U : Nat} {d x : PyData} {ds xs ys : List PyData}
theorem Th.mono (h : Th m C D W d) (a : m ≤ n) (b : C ≤ E) (c : D ≤ F) (e : W ≤ U) : Th n E F U d := ⟨gd_mono a d h.g, Nat.le_trans h.c b, Nat.le_trans h.d c, Nat.le_trans h.w e⟩
theorem Ths.mono (h : Ths m C D W ds) (a : m ≤ n) (b : C ≤ E) (c : D ≤ F) (e : W ≤ U) : Ths n E F U ds := ⟨fun x hx => gd_mono a x (h.g x hx), Nat.le_trans h.c b, fun x hx => Nat.le_trans (h.d x hx) c, fun x hx => Nat.le_trans (h.w x hx) e⟩
theorem Ths.app (h : Ths m C D W xs) (k : Ths m E D W ys) : Ths m (C + E) D W (xs ++ ys) :=
  ⟨fun d hd => (List.mem_append.mp hd).elim (h.g d) (k.g d), by rw [costAll_app]; exact Nat.add_le_add h.c k.c, fun d hd => (List.mem_append.mp hd).elim (h.d d) (k.d d), fun d hd => (List.mem_append.mp hd).elim (h.w d) (k.w d)⟩
theorem Ths.nil : Ths m 0 D W [] := ⟨fun _ h => (List.not_mem_nil h).elim, Nat.le_refl _, fun _ h => (List.not_mem_nil h).elim, fun _ h => (List.not_mem_nil h).elim⟩
theorem Ths.one (h : Th m C D W x) : Ths m (C + 2) D W [x] :=
  ⟨fun d hd => by rw [List.mem_singleton.mp hd]; exact h.g, by show costAll.cost x + 2 + 0 ≤ _; have := h.c; omega, fun d hd => by rw [List.mem_singleton.mp hd]; exact h.d, fun d hd => by rw [List.mem_singleton.mp hd]; exact h.w⟩
theorem Ths.mem (h : Ths m C D W ds) (e : d ∈ ds) : Th m C D W d := ⟨h.g d e, by have := cost_mem e; have := h.c; omega, h.d d e, h.w d e⟩
theorem Ths.len (h : Ths m C D W ds) : 2 * ds.length ≤ C := Nat.le_trans (len_cost ds) h.c
theorem Ths.list (h : Ths m C D W ds) (l : ds.length ≤ W) : Th m (C + 3) (D + 1) W (.list ds) :=
  ⟨gdAll_iff.mpr h.g, by show costAll ds + 3 ≤ _; have := h.c; omega, by show PyData.depthAll ds + 1 ≤ _; have := depthAll_iff.mpr h.d; omega, by show max ds.length (widAll ds) ≤ W; exact Nat.max_le.mpr ⟨l, widAll_iff.mpr h.w⟩⟩
theorem Ths.tuple (h : Ths m C D W ds) (l : ds.length ≤ W) : Th m (C + 3) (D + 1) W (.tuple ds) :=
  ⟨gdAll_iff.mpr h.g, by show costAll ds + 3 ≤ _; have := h.c; omega, by show PyData.depthAll ds + 1 ≤ _; have := depthAll_iff.mpr h.d; omega, by show max ds.length (widAll ds) ≤ W; exact Nat.max_le.mpr ⟨l, widAll_iff.mpr h.w⟩⟩
theorem Th.ofList (h : Th m C D W (.list ds)) : Ths m (C - 3) (D - 1) W ds ∧ ds.length ≤ W ∧ 3 ≤ C ∧ 1 ≤ D := by
  have h1 : costAll ds + 3 ≤ C := h.c
  have h2 : PyData.depthAll ds + 1 ≤ D := h.d
  have h3 : max ds.length (widAll ds) ≤ W := h.w
  exact ⟨⟨gdAll_iff.mp h.g, by omega, depthAll_iff.mp (by omega), widAll_iff.mp (Nat.le_trans (Nat.le_max_right ..) h3)⟩, Nat.le_trans (Nat.le_max_left ..) h3, by omega, by omega⟩
theorem Th.ofTuple (h : Th m C D W (.tuple ds)) : Ths m (C - 3) (D - 1) W ds ∧ ds.length ≤ W ∧ 3 ≤ C ∧ 1 ≤ D := by
  have h1 : costAll ds + 3 ≤ C := h.c
  have h2 : PyData.depthAll ds + 1 ≤ D := h.d
  have h3 : max ds.length (widAll ds) ≤ W := h.w
  exact ⟨⟨gdAll_iff.mp h.g, by omega, depthAll_iff.mp (by omega), widAll_iff.mp (Nat.le_trans (Nat.le_max_right ..) h3)⟩, Nat.le_trans (Nat.le_max_left ..) h3, by omega, by omega⟩
theorem costAll_take (n : Nat) (ds : List PyData) : costAll (ds.take n) ≤ costAll ds := by
  have := costAll_app (ds.take n) (ds.drop n)
  rw [List.take_append_drop] at this; omega
theorem costAll_drop (n : Nat) (ds : List PyData) : costAll (ds.drop n) ≤ costAll ds := by
  have := costAll_app (ds.take n) (ds.drop n)
  rw [List.take_append_drop] at this; omega
theorem costAll_rev : ∀ ds : List PyData, costAll ds.reverse = costAll ds
  | [] => rfl
  | x :: xs => by rw [List.reverse_cons, costAll_app, costAll_rev xs]; show _ + (costAll.cost x + 2 + 0) = costAll.cost x + 2 + costAll xs; omega
theorem Ths.sub (h : Ths m C D W ds) (s : ∀ x ∈ xs, x ∈ ds) (c : costAll xs ≤ C) : Ths m C D W xs := ⟨fun d hd => h.g d (s d hd), c, fun d hd => h.d d (s d hd), fun d hd => h.w d (s d hd)⟩
theorem Ths.take (h : Ths m C D W ds) (n : Nat) : Ths m C D W (ds.take n) := h.sub (fun d hd => List.mem_of_mem_take hd) (Nat.le_trans (costAll_take n ds) h.c)
theorem Ths.drop (h : Ths m C D W ds) (n : Nat) : Ths m C D W (ds.drop n) := h.sub (fun d hd => List.mem_of_mem_drop hd) (Nat.le_trans (costAll_drop n ds) h.c)
theorem Ths.rev (h : Ths m C D W ds) : Ths m C D W ds.reverse := h.sub (fun d hd => List.mem_reverse.mp hd) (by rw [costAll_rev]; exact h.c)
theorem costAll_set : ∀ (ds : List PyData) (i : Nat) (x : PyData), costAll (ds.set i x) ≤ costAll ds + (costAll.cost x + 2)
  | [], _, _ => Nat.zero_le _
  | y :: ys, 0, x => by show costAll.cost x + 2 + costAll ys ≤ costAll.cost y + 2 + costAll ys + _; omega
  | y :: ys, i + 1, x => by
    have := costAll_set ys i x
    show costAll.cost y + 2 + costAll (ys.set i x) ≤ costAll.cost y + 2 + costAll ys + _
    omega
theorem Ths.set {i : Nat} (h : Ths m C D W ds) (k : Th m E D W x) : Ths m (C + E + 2) D W (ds.set i x) :=
  ⟨fun d hd => (List.mem_or_eq_of_mem_set hd).elim (h.g d) fun e => by rw [e]; exact k.g, Nat.le_trans (costAll_set ds i x) (by have := h.c; have := k.c; omega), fun d hd => (List.mem_or_eq_of_mem_set hd).elim (h.d d) fun e => by rw [e]; exact k.d, fun d hd => (List.mem_or_eq_of_mem_set hd).elim (h.w d) fun e => by rw [e]; exact k.w⟩
end
section
variable {K : PySem.W.Frag} {H : Hp}
theorem dpAll_app' : ∀ {xs ys : List V} {ds es : List PyData}, DpAll K H xs ds → DpAll K H ys es → DpAll K H (xs ++ ys) (ds ++ es)
  | _, _, _, _, .nil, h => h
  | _, _, _, _, .cons h t, h2 => .cons h (dpAll_app' t h2)
theorem dpAll_take : ∀ {xs : List V} {ds : List PyData} (n : Nat), DpAll K H xs ds → DpAll K H (xs.take n) (ds.take n)
  | _, _, 0, _ => .nil
  | _, _, _ + 1, .nil => .nil
  | _, _, n + 1, .cons h t => .cons h (dpAll_take n t)
theorem dpAll_drop : ∀ {xs : List V} {ds : List PyData} (n : Nat), DpAll K H xs ds → DpAll K H (xs.drop n) (ds.drop n)
  | _, _, 0, h => h
  | _, _, _ + 1, .nil => .nil
  | _, _, n + 1, .cons _ t => dpAll_drop n t
theorem dpAll_rev : ∀ {xs : List V} {ds : List PyData}, DpAll K H xs ds → DpAll K H xs.reverse ds.reverse
  | _, _, .nil => .nil
  | _, _, .cons h t => by rw [List.reverse_cons, List.reverse_cons]; exact dpAll_app' (dpAll_rev t) (.cons h .nil)
theorem dpAll_set : ∀ {xs : List V} {ds : List PyData} {i : Nat} {v : V} {d : PyData}, DpAll K H xs ds → Dp K H v d → DpAll K H (xs.set i v) (ds.set i d)
  | _, _, _, _, _, .nil, _ => .nil
  | _, _, 0, _, _, .cons _ t, k => .cons k t
  | _, _, _ + 1, _, _, .cons h t, k => .cons h (dpAll_set t k)
/-- a slice of a row of parts -/
theorem dp_cut {xs : List V} {ds : List PyData} {lo hi : Option Int} {m C D W : Nat} (h : DpAll K H xs ds) (t : Ths m C D W ds) : ∃ es, DpAll K H (cutV xs lo hi) es ∧ Ths m C D W es ∧ es.length ≤ ds.length := by
  unfold cutV
  exact ⟨_, dpAll_take _ (dpAll_drop _ h), (t.drop _).take _, by rw [List.length_take, List.length_drop]; omega⟩
theorem dp_lst' {v : V} {ds : List PyData} (h : Dp K H v (.list ds)) : ∃ a xs, v = .ref a ∧ SqL K H a xs ∧ DpAll K H xs ds := by
  cases h with
  | lst h a => exact ⟨_, _, rfl, h, a⟩
end
end Pot
namespace Pot
open PySem PySem.Spec PyProof.Rows L2
theorem sm_at {H H' : Hp} {S : List Addr} {x : Addr} {o : HO} (s : Sm S H H') (n : x ∉ S) (h : H x = some o) : H' x = some o := by
  have := s x o (by rw [off_out n]; exact h)
  rw [off_out n] at this; exact this
theorem sm1_at {H H' : Hp} {b x : Addr} {o : HO} (s : Sm [b] H H') (n : x ≠ b) (h : H x = some o) : H' x = some o := sm_at s (fun z => n (List.mem_singleton.mp z)) h
theorem smp {H H' : Hp} {S : List Addr} {p : Addr} {o : HO} (s : Sm S H H') (h : H p = none) : Sm S H (upd H' p o) := fun x u e => by
  have n := off_mem e
  have ne : x ≠ p := fun z => by
    rw [off_out n, z, h] at e; cases e
  have := s x u e
  rw [off_out n] at this ⊢
  rw [upd_ne ne]; exact this
theorem sm_free {H H' : Hp} {b l : Addr} (s : Sm [b] H H') (B : Bx H' b) (h : H' l = none) : H l = none := by
  have nb := B.ne h
  have n : l ∉ [b] := fun z => nb (List.mem_singleton.mp z)
  cases e : H l with
  | none => rfl
  | some o => rw [sm_at s n e] at h; cases h
theorem cut_map {α : Type} (f : α → V) (ns : List α) (lo hi : Option Int) : cutV (ns.map f) lo hi = ((ns.drop (HT.sIx ns.length 0 lo)).take (HT.sIx ns.length ns.length hi - HT.sIx ns.length 0 lo)).map f := by
  unfold cutV
  rw [List.length_map, List.map_take, List.map_drop]
theorem cut_head {xs : List V} {k : Nat} : cutV xs none (some (k : Int)) = xs.take k := by
  unfold cutV
  rw [HT.sIx_none, HT.sIx_nat, List.drop_zero, Nat.sub_zero]
  by_cases h : k ≤ xs.length
  · rw [Nat.min_eq_left h]
  · rw [Nat.min_eq_right (by omega), List.take_length, List.take_of_length_le (by omega)]
theorem cut_tail {xs : List V} {k : Nat} : cutV xs (some (k : Int)) none = xs.drop k := by
  unfold cutV
  rw [HT.sIx_none, HT.sIx_nat]
  by_cases h : k ≤ xs.length
  · rw [Nat.min_eq_left h, List.take_of_length_le (by rw [List.length_drop]; exact Nat.le_refl _)]
  · rw [Nat.min_eq_right (by omega), Nat.sub_self, List.take_zero, List.drop_of_length_le (by omega)]
end Pot
namespace Pot
open PySem PySem.Spec PyProof.Rows L2
section
variable {K : PySem.W.Frag} {H : Hp} {t : Addr} {d : PyData} {ds : List PyData}
theorem seq_dp {x : V} (h : Dp K H x d) (e : d = .list ds ∨ d = .tuple ds) : ∃ t zs, x = .ref t ∧ (SqL K H t zs ∨ SqT K H t zs) ∧ DpAll K H zs ds := by
  rcases e with rfl | rfl
  · cases h with
    | lst h a => exact ⟨_, _, rfl, .inl h, a⟩
  · cases h with
    | tup h a => exact ⟨_, _, rfl, .inr h, a⟩
theorem len_dp (h : Dp K H (.ref t) d) (e : d = .list ds ∨ d = .tuple ds) : LenV K (.ref t) H ds.length := by
  rcases e with rfl | rfl
  · cases h with
    | lst h a => exact .inl ⟨_, h, (dpAll_len a).symm⟩
  · cases h with
    | tup h a => exact .inr ⟨_, h, (dpAll_len a).symm⟩
theorem Th.parts {m C D W : Nat} (h : Th m C D W d) (e : d = .list ds ∨ d = .tuple ds) : Ths m (C - 3) (D - 1) W ds ∧ ds.length ≤ W ∧ 3 ≤ C ∧ 1 ≤ D := by
  rcases e with rfl | rfl
  · exact h.ofList
  · exact h.ofTuple
end
theorem sm_in {H H' : Hp} {S : List Addr} {x : Addr} {o : HO} (s : Sm S H H') (h : off H S x = some o) : off H' S x = some o := s x o h
end Pot
namespace Pot
open PySem PySem.Spec PyProof.Rows L2
theorem costAll_set_eq : ∀ {ds : List PyData} {i : Nat} {x y : PyData}, ds[i]? = some y → costAll (ds.set i x) + costAll.cost y = costAll ds + costAll.cost x
  | [], _, _, _, h => by simp at h
  | z :: zs, 0, x, y, h => by
    have e : z = y := by simpa using h
    subst e
    show costAll.cost x + 2 + costAll zs + costAll.cost z = costAll.cost z + 2 + costAll zs + costAll.cost x
    omega
  | z :: zs, i + 1, x, y, h => by
    have := costAll_set_eq (ds := zs) (i := i) (x := x) (y := y) (by simpa using h)
    show costAll.cost z + 2 + costAll (zs.set i x) + costAll.cost y = costAll.cost z + 2 + costAll zs + costAll.cost x
    omega
theorem codes_ofString (s : String) : ∀ c ∈ (Str.ofString s).cps.toList, c < 1114112 := by
  intro c hc
  rw [Str.ofString_eq_toList] at hc
  have : c ∈ s.toList.map Char.toNat := by simpa using hc
  obtain ⟨ch, _, rfl⟩ := List.mem_map.mp this
  have v := ch.valid
  have e : ch.toNat = ch.val.toNat := rfl
  rcases v with v | ⟨_, v⟩
  · have : ch.val.toNat < 0xD800 := v
    omega
  · have : ch.val.toNat < 0x110000 := v
    omega
theorem th_text {i : Int} (h : i.natAbs ≤ 2000000) {m : Nat} : Th m 19212 0 0 (.str (toString i)) := by
  have l : (Str.ofString (toString i)).length ≤ 1921 := PyProof.Rows.int_text_len_1921 (log_small' h)
  exact ⟨⟨by omega, codes_ofString _⟩, by show 10 * (Str.ofString (toString i)).length + 2 ≤ 19212; omega, Nat.le_refl _, Nat.le_refl _⟩
end Pot

namespace Pot
open PySem PySem.Spec PyProof.Rows L2
theorem Ths.parts2 {m C E D W a b : Nat} {ds es : List PyData} (h : Ths m C D W ds) (hab : a ≤ b) (k : Ths m E D W es) : Ths m (C + E) D W (ds.take a ++ es ++ ds.drop b) := by
  have mem : ∀ d, d ∈ ds.take a ++ es ++ ds.drop b → d ∈ ds ∨ d ∈ es := fun d hd => by
    rcases List.mem_append.mp hd with z | z
    · rcases List.mem_append.mp z with y | y
      · exact .inl (List.mem_of_mem_take y)
      · exact .inr y
    · exact .inl (List.mem_of_mem_drop z)
  refine ⟨fun d hd => (mem d hd).elim (h.g d) (k.g d), ?_, fun d hd => (mem d hd).elim (h.d d) (k.d d), fun d hd => (mem d hd).elim (h.w d) (k.w d)⟩
  rw [costAll_app, costAll_app]
  have e := costAll_app (ds.take a) (ds.drop a)
  rw [List.take_append_drop] at e
  have e2 : ds.drop b = (ds.drop a).drop (b - a) := by rw [List.drop_drop]; congr 1; omega
  have e3 := costAll_drop (b - a) (ds.drop a)
  rw [← e2] at e3
  have := h.c
  have := k.c
  omega
end Pot

namespace Pot
open PySem PySem.Spec PyProof.Rows L2
theorem nodup_le {α : Type} [BEq α] [LawfulBEq α] : ∀ {ks l : List α}, ks.Nodup → (∀ k ∈ ks, k ∈ l) → ks.length ≤ l.length
  | [], _, _, _ => Nat.zero_le _
  | k :: ks, l, h, s => by
    have hk := s k List.mem_cons_self
    have h2 := (List.nodup_cons.mp h)
    have := nodup_le (ks := ks) (l := l.erase k) h2.2 fun x hx => by
      have ne : x ≠ k := fun e => h2.1 (e ▸ hx)
      exact (List.mem_erase_of_ne ne).mpr (s x (List.mem_cons_of_mem _ hx))
    rw [List.length_erase_of_mem hk] at this
    have : 0 < l.length := List.length_pos_of_mem hk
    simp only [List.length_cons]
    omega
section
variable {X : Cx} {K : PySem.W.Frag}
theorem ko_notIn (h : X.K = K := by rfl) : OpR X (compareOp .NotIn) (rIn K true) := h ▸ op_notIn_seq
/-- set(xs) of ints: how many members it has -/
def rSetLj (K : PySem.W.Frag) (w : World) : List V → Hp → VK → Prop := fun xs H Q => ∃ (a : Addr) (ns : List Int), xs = [V.ref a] ∧ SqL K H a (ns.map V.int) ∧ ns.length ≤ 4000 ∧
  ∀ (p : Addr) (ks : List Int), H p = none → ks.Nodup → (∀ k, k ∈ ks ↔ k ∈ ns) → Q (.ref p) (upd H p (SetO w p (fun k => decide (k ∈ ns)) ks.length))
theorem cr_setLj (hc : X.calm = true) : CallR X (.type "set") (rSetLj X.K X.w) := by
  intro pins s σ H vs us Q I r h
  obtain ⟨a, ns, rfl, hS, hl, q⟩ := h
  rw [Vals.ref1 r]
  obtain ⟨its, rv, pl, hz⟩ := I.list hS
  refine call_set_li ns (I.ok.hd hc) pl.isList (by simpa using Vals.ints rv) (by unfold scanBound; omega) fun s' f => ?_
  obtain ⟨h', tk, c, rfl, R, hcn, k⟩ := f
  have hn : H s.heap.objs.size = none := I.hok.fresh (Nat.le_refl _)
  have J : Inv X pins σ (upd H s.heap.objs.size (SetO X.w s.heap.objs.size (fun k => decide (k ∈ ns)) c)) { s with heap := h', toks := tk } := I.laid (t' := tk) k (Nat.le_refl _) (setO_new R)
  obtain ⟨o, es, ep, t, _, _, _, _, nod, mem, _, _, size, _⟩ := R
  have q2 := q s.heap.objs.size (es.toList.map keyOf) hn nod fun k => by rw [← mem k, decide_eq_true_eq]
  rw [List.length_map, Array.length_toList, size] at q2
  exact ⟨.ref s.heap.objs.size, _, J, rfl, q2⟩
theorem kc_setLj {w : World} (hc : X.calm = true := by rfl) (h : X.K = K := by rfl) (hw : X.w = w := by rfl) : CallR X (.type "set") (rSetLj K w) := by subst h; subst hw; exact cr_setLj hc
end
end Pot

namespace Pot
open PySem PySem.Spec PyProof.Rows L2
/-! ### kinds of data -/
def tyD : PyData → String
  | .none => "NoneType"
  | .bool _ => "bool"
  | .int _ => "int"
  | .str _ => "str"
  | .list _ => "list"
  | .tuple _ => "tuple"
  | .dict _ => "dict"
def isIntD : PyData → Bool
  | .int _ => true
  | .bool _ => true
  | _ => false
def isBoolD : PyData → Bool
  | .bool _ => true
  | _ => false
def isStrD : PyData → Bool
  | .str _ => true
  | _ => false
def isListD : PyData → Bool
  | .list _ => true
  | _ => false
def isTupD : PyData → Bool
  | .tuple _ => true
  | _ => false
section
variable {K : PySem.W.Frag} {H : Hp} {x : V} {d : PyData} {Q : VK}
theorem tyx_dp (h : Dp K H x d) : TyX K H x (.type (tyD d)) := by
  cases h with
  | non => exact .base .non
  | bl b => exact .base (.bl b)
  | int i => exact .base (.int i)
  | str z => exact .base (.str z)
  | lst h _ => exact tyx_list h
  | tup h _ => exact tyx_tup h
theorem kit_int (h : Dp K H x d) : PySem.W.kitOne K (.type (tyD d)) (.type "int") = some (isIntD d) := by
  cases h with
  | non => exact kit_ty (show kitB "NoneType" "int" = some false by decide +kernel)
  | bl _ => exact kit_ty (show kitB "bool" "int" = some true by decide +kernel)
  | int _ => exact kit_ty (show kitB "int" "int" = some true by decide +kernel)
  | str _ => exact kit_ty (show kitB "str" "int" = some false by decide +kernel)
  | lst _ _ => exact kit_ty (show kitB "list" "int" = some false by decide +kernel)
  | tup _ _ => exact kit_ty (show kitB "tuple" "int" = some false by decide +kernel)
theorem kit_bool (h : Dp K H x d) : PySem.W.kitOne K (.type (tyD d)) (.type "bool") = some (isBoolD d) := by
  cases h with
  | non => exact kit_ty (show kitB "NoneType" "bool" = some false by decide +kernel)
  | bl _ => exact kit_ty (show kitB "bool" "bool" = some true by decide +kernel)
  | int _ => exact kit_ty (show kitB "int" "bool" = some false by decide +kernel)
  | str _ => exact kit_ty (show kitB "str" "bool" = some false by decide +kernel)
  | lst _ _ => exact kit_ty (show kitB "list" "bool" = some false by decide +kernel)
  | tup _ _ => exact kit_ty (show kitB "tuple" "bool" = some false by decide +kernel)
theorem kit_str (h : Dp K H x d) : PySem.W.kitOne K (.type (tyD d)) (.type "str") = some (isStrD d) := by
  cases h with
  | non => exact kit_ty (show kitB "NoneType" "str" = some false by decide +kernel)
  | bl _ => exact kit_ty (show kitB "bool" "str" = some false by decide +kernel)
  | int _ => exact kit_ty (show kitB "int" "str" = some false by decide +kernel)
  | str _ => exact kit_ty (show kitB "str" "str" = some true by decide +kernel)
  | lst _ _ => exact kit_ty (show kitB "list" "str" = some false by decide +kernel)
  | tup _ _ => exact kit_ty (show kitB "tuple" "str" = some false by decide +kernel)
theorem kit_list (h : Dp K H x d) : PySem.W.kitOne K (.type (tyD d)) (.type "list") = some (isListD d) := by
  cases h with
  | non => exact kit_ty (show kitB "NoneType" "list" = some false by decide +kernel)
  | bl _ => exact kit_ty (show kitB "bool" "list" = some false by decide +kernel)
  | int _ => exact kit_ty (show kitB "int" "list" = some false by decide +kernel)
  | str _ => exact kit_ty (show kitB "str" "list" = some false by decide +kernel)
  | lst _ _ => exact kit_ty (show kitB "list" "list" = some true by decide +kernel)
  | tup _ _ => exact kit_ty (show kitB "tuple" "list" = some false by decide +kernel)
theorem kit_tup (h : Dp K H x d) : PySem.W.kitOne K (.type (tyD d)) (.type "tuple") = some (isTupD d) := by
  cases h with
  | non => exact kit_ty (show kitB "NoneType" "tuple" = some false by decide +kernel)
  | bl _ => exact kit_ty (show kitB "bool" "tuple" = some false by decide +kernel)
  | int _ => exact kit_ty (show kitB "int" "tuple" = some false by decide +kernel)
  | str _ => exact kit_ty (show kitB "str" "tuple" = some false by decide +kernel)
  | lst _ _ => exact kit_ty (show kitB "list" "tuple" = some false by decide +kernel)
  | tup _ _ => exact kit_ty (show kitB "tuple" "tuple" = some true by decide +kernel)
theorem kit_lt (h : Dp K H x d) : PySem.W.kitAny K (.type (tyD d)) [.type "list", .type "tuple"] = some (isListD d || isTupD d) := by
  cases h <;> rfl
end
/-! ### numbers within bounds -/
def numD (lo hi : Int) : PyData → Bool
  | .int i => decide (lo ≤ i) && decide (i ≤ hi)
  | _ => false
def toI : PyData → Int
  | .int i => i
  | _ => 0
theorem numD_int {lo hi : Int} : ∀ {d : PyData}, numD lo hi d = true → d = .int (toI d) ∧ lo ≤ toI d ∧ toI d ≤ hi
  | .int i, h => by
    obtain ⟨h1, h2⟩ := Bool.and_eq_true_iff.mp (show (decide (lo ≤ i) && decide (i ≤ hi)) = true from h)
    exact ⟨rfl, of_decide_eq_true h1, of_decide_eq_true h2⟩
/-- rising -/
def risI : List Int → Bool
  | a :: b :: r => decide (a < b) && risI (b :: r)
  | _ => true
def risD (lo hi : Int) : PyData → Bool
  | .list ds => ds.all (numD lo hi) && risI (ds.map toI)
  | _ => false
theorem risI_pair : ∀ {ns : List Int}, risI ns = true ↔ ns.Pairwise (· < ·)
  | [] => by simp [risI]
  | [a] => by simp [risI]
  | a :: b :: r => by
    have ih := risI_pair (ns := b :: r)
    show (decide (a < b) && risI (b :: r)) = true ↔ _
    rw [Bool.and_eq_true_iff, decide_eq_true_eq, ih]
    constructor
    · rintro ⟨h1, h2⟩
      refine List.pairwise_cons.mpr ⟨fun x hx => ?_, h2⟩
      rcases List.mem_cons.mp hx with e | e
      · rw [e]; exact h1
      · exact Int.lt_trans h1 ((List.pairwise_cons.mp h2).1 x e)
    · intro h
      obtain ⟨h1, h2⟩ := List.pairwise_cons.mp h
      exact ⟨h1 b List.mem_cons_self, h2⟩
theorem nums_of {lo hi : Int} {ds : List PyData} (h : ds.all (numD lo hi) = true) : ds = (ds.map toI).map PyData.int ∧ ∀ k ∈ ds.map toI, lo ≤ k ∧ k ≤ hi := by
  rw [List.all_eq_true] at h
  constructor
  · rw [List.map_map]
    conv => lhs; rw [← List.map_id ds]
    exact List.map_congr_left fun d hd => (numD_int (h d hd)).1
  · intro k hk
    obtain ⟨d, hd, rfl⟩ := List.mem_map.mp hk
    exact (numD_int (h d hd)).2
section
variable {K : PySem.W.Frag} {H : Hp}
theorem dp_intsV : ∀ {xs : List V} {ns : List Int}, DpAll K H xs (ns.map PyData.int) → xs = ns.map V.int
  | [], [], _ => rfl
  | [], _ :: _, h => by cases h
  | _ :: _, [], h => by cases h
  | x :: xs, n :: ns, h => by
    cases h with
    | cons h t => cases h; rw [dp_intsV t]; rfl
end
/-- of a row that rises just the same: a row in which all stand in order, none twice -/
theorem sorted_uniq : ∀ {xs ys : List Int}, xs.Pairwise (· < ·) → ys.Pairwise (· < ·) → (∀ k, k ∈ xs ↔ k ∈ ys) → xs = ys
  | [], [], _, _, _ => rfl
  | [], y :: ys, _, _, h => by have := (h y).mpr List.mem_cons_self; simp at this
  | x :: xs, [], _, _, h => by have := (h x).mp List.mem_cons_self; simp at this
  | x :: xs, y :: ys, h1, h2, h => by
    rw [List.pairwise_cons] at h1 h2
    have e : x = y := by
      rcases List.mem_cons.mp ((h x).mp List.mem_cons_self) with e | e
      · exact e
      · rcases List.mem_cons.mp ((h y).mpr List.mem_cons_self) with e2 | e2
        · exact e2.symm
        · have := h2.1 x e; have := h1.1 y e2; omega
    subst e
    have : xs = ys := sorted_uniq h1.2 h2.2 fun k => by
      constructor
      · intro hk
        rcases List.mem_cons.mp ((h k).mp (List.mem_cons_of_mem _ hk)) with e | e
        · have := h1.1 k hk; omega
        · exact e
      · intro hk
        rcases List.mem_cons.mp ((h k).mpr (List.mem_cons_of_mem _ hk)) with e | e
        · have := h2.1 k hk; omega
        · exact e
    rw [this]
theorem eqv_ints : ∀ xs ys : List Int, PyData.eqv (.list (xs.map PyData.int)) (.list (ys.map PyData.int)) = decide (xs = ys)
  | [], [] => rfl
  | [], _ :: _ => rfl
  | _ :: _, [] => rfl
  | x :: xs, y :: ys => by
    have ih := eqv_ints xs ys
    show (PyData.eqv (.int x) (.int y) && PyData.eqvAll (xs.map PyData.int) (ys.map PyData.int)) = _
    rw [show PyData.eqvAll (xs.map PyData.int) (ys.map PyData.int) = decide (xs = ys) from ih]
    show ((x == y) && _) = _
    by_cases h : x = y
    · subst h; simp
    · simp [h]
/-- thing == sorted(set(thing)): just where it rises -/
theorem eq_sorted {ns zs : List Int} (h : zs.Pairwise (· < ·)) (m : ∀ k, k ∈ zs ↔ k ∈ ns) : decide (ns = zs) = risI ns := by
  by_cases e : ns = zs
  · rw [decide_eq_true e, e]; exact (risI_pair.mpr h).symm
  · rw [decide_eq_false e]
    cases hr : risI ns with
    | false => rfl
    | true => exact absurd (sorted_uniq (risI_pair.mp hr) h fun k => (m k).symm) e
theorem nodup_60 {ks : List Int} (h : ks.Nodup) (b : ∀ k ∈ ks, 0 ≤ k ∧ k ≤ 60) : ks.length < 64 := by
  have := nodup_le (l := (List.range 61).map fun (i : Nat) => (i : Int)) h fun k hk => by
    obtain ⟨h0, h1⟩ := b k hk
    exact List.mem_map.mpr ⟨k.toNat, List.mem_range.mpr (by omega), by omega⟩
  rw [List.length_map, List.length_range] at this
  omega
end Pot
namespace Pot
open PySem PySem.Spec PyProof.Rows L2
/-! ### a comprehension that changes nothing that stood: out i is what is told up to turn i -/
def PvL (H1 : Hp) (D : Addr) (out : Nat → List V) (i : Nat) (H2 : Hp) : Prop := Same H1 H2 ∧ H2 D = some (.lst (out i))
section
variable {H1 H2 H3 : Hp} {D : Addr} {out : Nat → List V} {i : Nat} {y : V}
theorem pv_start (nD : H1 D = none) (e : out 0 = []) : PvL H1 D out 0 (upd H1 D (.lst [])) := ⟨same_upd nD, by rw [e]; exact upd_same⟩
theorem pv_put (nD : H1 D = none) (p : PvL H1 D out i H2) (s : Same H2 H3) (e : out (i + 1) = out i ++ [y]) (l : (out i).length < sizeLine) : ∃ acc, H3 D = some (.lst acc) ∧ acc.length < sizeLine ∧ PvL H1 D out (i + 1) (upd H3 D (.lst (acc ++ [y]))) :=
  ⟨out i, s _ _ p.2, l, same_put (p.1.trans s) nD, by rw [e]; exact upd_same⟩
theorem pv_skip (p : PvL H1 D out i H2) (s : Same H2 H3) (e : out (i + 1) = out i) : PvL H1 D out (i + 1) H3 := ⟨p.1.trans s, by rw [e]; exact s _ _ p.2⟩
end
theorem take_map {α : Type} (f : α → V) {l : List α} {i : Nat} {x : α} (h : l[i]? = some x) : (l.take (i + 1)).map f = (l.take i).map f ++ [f x] := by
  rw [List.take_add_one, h, List.map_append]; rfl
theorem take_len_lt {α : Type} {f : α → V} {l : List α} {i : Nat} (h : i < 100000) : ((l.take i).map f).length < sizeLine := by
  rw [List.length_map, List.length_take, sizeLine_eq]; omega
theorem take_len_le {α : Type} {f : α → V} {l : List α} {i : Nat} (h : l.length < 100000) : ((l.take i).map f).length < sizeLine := by
  rw [List.length_map, List.length_take, sizeLine_eq]; omega
/-- each below the next -/
def rb : List Int → List Bool
  | a :: b :: r => decide (a < b) :: rb (b :: r)
  | _ => []
theorem rb_all : ∀ ns : List Int, (rb ns).all id = risI ns
  | [] => rfl
  | [_] => rfl
  | a :: b :: r => by show (decide (a < b) && (rb (b :: r)).all id) = _; rw [rb_all (b :: r)]; rfl
theorem rb_len : ∀ ns : List Int, (rb ns).length = ns.length - 1
  | [] => rfl
  | [_] => rfl
  | a :: b :: r => by show (rb (b :: r)).length + 1 = _; rw [rb_len (b :: r)]; simp
theorem rb_at : ∀ {ns : List Int} {i : Nat} {x y : Int}, ns[i]? = some x → ns[i + 1]? = some y → (rb ns)[i]? = some (decide (x < y))
  | [], _, _, _, h, _ => by simp at h
  | [_], i, _, _, _, h => by simp at h
  | a :: b :: r, 0, x, y, h, k => by
    have e1 : a = x := by simpa using h
    have e2 : b = y := by simpa using k
    subst e1 e2; rfl
  | a :: b :: r, i + 1, x, y, h, k => rb_at (ns := b :: r) (i := i) (by simpa using h) (by simpa using k)
/-- what is told of each of some data -/
theorem all_map {ds : List PyData} {f : PyData → Bool} : (ds.map f).all id = ds.all f := by
  rw [List.all_map]; rfl
end Pot
namespace Pot
open PySem PySem.Spec PyProof.Rows L2
theorem pv_end {H1 H2 : Hp} {D : Addr} {out : Nat → List V} {n : Nat} {zs : List V} (p : PvL H1 D out n H2) (e : out n = zs) : Same H1 H2 ∧ H2 D = some (.lst zs) := ⟨p.1, by rw [← e]; exact p.2⟩
theorem take_all {α : Type} {f : α → V} {l : List α} {n : Nat} (h : l.length ≤ n) : (l.take n).map f = l.map f := by rw [List.take_of_length_le h]
end Pot

namespace Pot
open PySem PySem.Spec PyProof.Rows L2
/-! ### palettes as data -/
abbrev Col := Str × Int × Int × Int
abbrev Wsh := Str × Str × Option Int
def colD (c : Col) : PyData := .tuple [.str c.1, .int c.2.1, .int c.2.2.1, .int c.2.2.2]
def optD : Option Int → PyData
  | none => .none
  | some i => .int i
def washD (r : Wsh) : PyData := .tuple [.str r.1, .str r.2.1, optD r.2.2]
def palD (cs : List Col) (ws : List Wsh) : PyData := .tuple [.tuple (cs.map colD), .tuple (ws.map washD)]
def optV : Option Int → V
  | none => .non
  | some i => .int i
def namV : Option Str → V
  | none => .non
  | some z => .str z
/-- the washing between two: the first row that tells -/
def washF (ws : List Wsh) (a : Option Str) (b : Str) : Option Int := match ws with
  | [] => some 0
  | r :: ws => if some r.1 = a ∧ r.2.1 = b then r.2.2 else washF ws a b
/-- the washing of a row -/
def sumF (ws : List Wsh) : Option Str → List Str → Int → Option Int
  | _, [], h => some h
  | a, b :: r, h => match washF ws a b with
    | none => none
    | some k => sumF ws (some b) r (h + k)
section
variable {K : PySem.W.Frag} {H : Hp}
theorem dp_tup {v : V} {ds : List PyData} (h : Dp K H v (.tuple ds)) : ∃ a xs, v = .ref a ∧ SqT K H a xs ∧ DpAll K H xs ds := by
  cases h with
  | tup h a => exact ⟨_, _, rfl, h, a⟩
theorem dp_lst {v : V} {ds : List PyData} (h : Dp K H v (.list ds)) : ∃ a xs, v = .ref a ∧ SqL K H a xs ∧ DpAll K H xs ds := by
  cases h with
  | lst h a => exact ⟨_, _, rfl, h, a⟩
theorem dp_str {v : V} {z : Str} (h : Dp K H v (.str z)) : v = .str z := by cases h; rfl
theorem dp_int {v : V} {z : Int} (h : Dp K H v (.int z)) : v = .int z := by cases h; rfl
theorem dp_opt {v : V} : ∀ {z : Option Int}, Dp K H v (optD z) → v = optV z
  | none, h => by cases h; rfl
  | some i, h => by cases h; rfl
theorem opt_dp : ∀ (z : Option Int), Dp K H (optV z) (optD z)
  | none => .non
  | some i => .int i
theorem dp_two {xs : List V} {d e : PyData} (h : DpAll K H xs [d, e]) : ∃ x y, xs = [x, y] ∧ Dp K H x d ∧ Dp K H y e := by
  cases h with
  | cons h1 t => cases t with
    | cons h2 t => cases t; exact ⟨_, _, rfl, h1, h2⟩
theorem dp_three {xs : List V} {d e f : PyData} (h : DpAll K H xs [d, e, f]) : ∃ x y z, xs = [x, y, z] ∧ Dp K H x d ∧ Dp K H y e ∧ Dp K H z f := by
  cases h with
  | cons h1 t => obtain ⟨y, z, rfl, h2, h3⟩ := dp_two t; exact ⟨_, _, _, rfl, h1, h2, h3⟩
theorem dp_four {xs : List V} {d e f g : PyData} (h : DpAll K H xs [d, e, f, g]) : ∃ x y z u, xs = [x, y, z, u] ∧ Dp K H x d ∧ Dp K H y e ∧ Dp K H z f ∧ Dp K H u g := by
  cases h with
  | cons h1 t => obtain ⟨y, z, u, rfl, h2, h3, h4⟩ := dp_three t; exact ⟨_, _, _, _, rfl, h1, h2, h3, h4⟩
/-- a colour's tuple -/
theorem col_dp {v : V} {c : Col} (h : Dp K H v (colD c)) : ∃ a, v = .ref a ∧ SqT K H a [.str c.1, .int c.2.1, .int c.2.2.1, .int c.2.2.2] := by
  obtain ⟨a, xs, rfl, hs, ha⟩ := dp_tup h
  obtain ⟨x, y, z, u, rfl, h1, h2, h3, h4⟩ := dp_four ha
  rw [dp_str h1, dp_int h2, dp_int h3, dp_int h4] at hs
  exact ⟨a, rfl, hs⟩
theorem wash_dp {v : V} {r : Wsh} (h : Dp K H v (washD r)) : ∃ a, v = .ref a ∧ SqT K H a [.str r.1, .str r.2.1, optV r.2.2] := by
  obtain ⟨a, xs, rfl, hs, ha⟩ := dp_tup h
  obtain ⟨x, y, z, rfl, h1, h2, h3⟩ := dp_three ha
  rw [dp_str h1, dp_str h2, dp_opt h3] at hs
  exact ⟨a, rfl, hs⟩
/-- a palette in the heap -/
theorem pal_dp {v : V} {cs : List Col} {ws : List Wsh} (h : Dp K H v (palD cs ws)) :
    ∃ p c w xs ys, v = .ref p ∧ SqT K H p [.ref c, .ref w] ∧ SqT K H c xs ∧ DpAll K H xs (cs.map colD) ∧ SqT K H w ys ∧ DpAll K H ys (ws.map washD) := by
  obtain ⟨p, zs, rfl, hp, hz⟩ := dp_tup h
  obtain ⟨x, y, rfl, h1, h2⟩ := dp_two hz
  obtain ⟨c, xs, rfl, hc, hx⟩ := dp_tup h1
  obtain ⟨w, ys, rfl, hw, hy⟩ := dp_tup h2
  exact ⟨p, c, w, xs, ys, rfl, hp, hc, hx, hw, hy⟩
theorem dpAll_map_at {α : Type} {f : α → PyData} {xs : List V} {l : List α} {i : Nat} {x : V} (h : DpAll K H xs (l.map f)) (e : xs[i]? = some x) : ∃ y, l[i]? = some y ∧ Dp K H x (f y) := by
  obtain ⟨d, g, p⟩ := dpAll_at h e
  rw [List.getElem?_map] at g
  obtain ⟨y, hy, rfl⟩ := Option.map_eq_some_iff.mp g
  exact ⟨y, hy, p⟩
theorem dpAll_map_len {α : Type} {f : α → PyData} {xs : List V} {l : List α} (h : DpAll K H xs (l.map f)) : xs.length = l.length := by
  rw [dpAll_len h, List.length_map]
end
theorem decS {a b : Str} : decide (V.str a = V.str b) = decide (a = b) := by
  by_cases h : a = b
  · subst h; rw [decide_eq_true rfl, decide_eq_true rfl]
  · rw [decide_eq_false h, decide_eq_false fun z => h (V.str.inj z)]
/-- behind rows that don't tell -/
theorem washF_skip {a : Option Str} {b : Str} : ∀ {ws : List Wsh} {i : Nat}, (∀ j r, j < i → ws[j]? = some r → ¬ (some r.1 = a ∧ r.2.1 = b)) → washF ws a b = washF (ws.drop i) a b
  | ws, 0, _ => rfl
  | [], i + 1, _ => rfl
  | r :: ws, i + 1, h => by
    show (if some r.1 = a ∧ r.2.1 = b then r.2.2 else washF ws a b) = washF (ws.drop i) a b
    rw [if_neg (h 0 r (Nat.succ_pos _) rfl)]
    exact washF_skip (a := a) (b := b) (ws := ws) (i := i) fun j q hj e => h (j + 1) q (Nat.succ_lt_succ hj) e
theorem washF_at {a : Option Str} {b : Str} {ws : List Wsh} {i : Nat} {r : Wsh} (h : ∀ j r, j < i → ws[j]? = some r → ¬ (some r.1 = a ∧ r.2.1 = b)) (e : ws[i]? = some r) (hr : some r.1 = a ∧ r.2.1 = b) : washF ws a b = r.2.2 := by
  rw [washF_skip h, List.drop_eq_getElem_cons (List.getElem?_eq_some_iff.mp e).1, (List.getElem?_eq_some_iff.mp e).2]
  unfold washF
  rw [if_pos hr]
theorem washF_none {a : Option Str} {b : Str} {ws : List Wsh} (h : ∀ j r, j < ws.length → ws[j]? = some r → ¬ (some r.1 = a ∧ r.2.1 = b)) : washF ws a b = some 0 := by
  rw [washF_skip h, List.drop_length]
  rfl
/-! ### data without lists stays while the law draws -/
def noLAll : List PyData → Prop
  | [] => True
  | x :: xs => noL x ∧ noLAll xs
where noL : PyData → Prop
  | .list _ => False
  | .dict _ => False
  | .tuple xs => noLAll xs
  | _ => True
section
variable {K : PySem.W.Frag}
theorem kp_tup {d c : Addr} {H H' : Hp} {n : Nat} {a : Addr} {xs : List V} (st : StAt H d c n) (k : Kp d c H H') (h : SqT K H a xs) : SqT K H' a xs := by
  obtain ⟨_, ys, t, h1, h2, _⟩ := st
  have go : ∀ o, (H a = some (.tup xs) ∨ H a = some (.frz o (.tup xs))) → a ≠ d ∧ a ≠ c := fun o e => by
    constructor
    · intro z; subst z; rw [h1] at e; rcases e with e | e <;> cases e
    · intro z; subst z; rw [h2] at e; rcases e with e | e <;> cases e
  rcases h with (h | ⟨o, h⟩) | h
  · have g := go ⟨.none, none, .fields #[], #[]⟩ (.inl h); exact .inl (.inl (k _ _ g.1 g.2 h))
  · have g := go o (.inr h); exact .inl (.inr ⟨o, k _ _ g.1 g.2 h⟩)
  · exact .inr h
mutual
theorem dp_kp {d c : Addr} {H H' : Hp} {n : Nat} (st : StAt H d c n) (k : Kp d c H H') : ∀ {v : V} {e : PyData}, noLAll.noL e → Dp K H v e → Dp K H' v e
  | _, _, _, .non => .non
  | _, _, _, .bl b => .bl b
  | _, _, _, .int i => .int i
  | _, _, _, .str x => .str x
  | _, _, h, .lst _ _ => h.elim
  | _, _, h, .tup s a => .tup (kp_tup st k s) (dpAll_kp st k h a)
theorem dpAll_kp {d c : Addr} {H H' : Hp} {n : Nat} (st : StAt H d c n) (k : Kp d c H H') : ∀ {vs : List V} {es : List PyData}, noLAll es → DpAll K H vs es → DpAll K H' vs es
  | _, _, _, .nil => .nil
  | _, _, h, .cons x t => .cons (dp_kp st k h.1 x) (dpAll_kp st k h.2 t)
end
mutual
theorem dp_go {H H' : Hp} (go : ∀ a us, SqT K H a us → SqT K H' a us) : ∀ {v : V} {e : PyData}, noLAll.noL e → Dp K H v e → Dp K H' v e
  | _, _, _, .non => .non
  | _, _, _, .bl b => .bl b
  | _, _, _, .int i => .int i
  | _, _, _, .str x => .str x
  | _, _, h, .lst _ _ => h.elim
  | _, _, h, .tup s a => .tup (go _ _ s) (dpAll_go go h a)
theorem dpAll_go {H H' : Hp} (go : ∀ a us, SqT K H a us → SqT K H' a us) : ∀ {vs : List V} {es : List PyData}, noLAll es → DpAll K H vs es → DpAll K H' vs es
  | _, _, _, .nil => .nil
  | _, _, h, .cons x t => .cons (dp_go go h.1 x) (dpAll_go go h.2 t)
end
theorem noL_map {α : Type} {f : α → PyData} (h : ∀ x, noLAll.noL (f x)) : ∀ l : List α, noLAll (l.map f)
  | [] => trivial
  | x :: r => ⟨h x, noL_map h r⟩
theorem noL_col (c : Col) : noLAll.noL (colD c) := ⟨trivial, trivial, trivial, trivial, trivial⟩
theorem noL_wash (r : Wsh) : noLAll.noL (washD r) := ⟨trivial, trivial, by cases r.2.2 <;> trivial, trivial⟩
theorem noL_pal (cs : List Col) (ws : List Wsh) : noLAll.noL (palD cs ws) := ⟨noL_map noL_col cs, noL_map noL_wash ws, trivial⟩
theorem dpAll_app {H : Hp} : ∀ {xs ys : List V} {ds es : List PyData}, DpAll K H xs ds → DpAll K H ys es → DpAll K H (xs ++ ys) (ds ++ es)
  | _, _, _, _, .nil, h => h
  | _, _, _, _, .cons h t, h2 => .cons h (dpAll_app t h2)
end
/-! ### how long a palette's text may be -/
structure PalOk (cs : List Col) (ws : List Wsh) : Prop where
  nc : cs.length ≤ 20
  nw : ws.length ≤ 60
  cn : ∀ c ∈ cs, c.1.length ≤ 9 ∧ (∀ x ∈ c.1.cps.toList, x < 1114112) ∧ c.2.1.natAbs < 10000 ∧ c.2.2.1.natAbs < 10000 ∧ c.2.2.2.natAbs < 10000
  wn : ∀ r ∈ ws, (r.1.length ≤ 9 ∧ ∀ x ∈ r.1.cps.toList, x < 1114112) ∧ (r.2.1.length ≤ 9 ∧ ∀ x ∈ r.2.1.cps.toList, x < 1114112) ∧ ∀ i, r.2.2 = some i → i.natAbs < 10000
theorem PalOk.addC {cs : List Col} {ws : List Wsh} {c : Col} (h : PalOk cs ws) (n : cs.length < 20) (ok : c.1.length ≤ 9 ∧ (∀ x ∈ c.1.cps.toList, x < 1114112) ∧ c.2.1.natAbs < 10000 ∧ c.2.2.1.natAbs < 10000 ∧ c.2.2.2.natAbs < 10000) : PalOk (cs ++ [c]) ws :=
  ⟨by rw [List.length_append]; exact n, h.nw, fun x hx => (List.mem_append.mp hx).elim (h.cn x) fun z => by rw [List.mem_singleton.mp z]; exact ok, h.wn⟩
theorem PalOk.addW {cs : List Col} {ws : List Wsh} {r : Wsh} (h : PalOk cs ws) (n : ws.length < 60) (ok : (r.1.length ≤ 9 ∧ ∀ x ∈ r.1.cps.toList, x < 1114112) ∧ (r.2.1.length ≤ 9 ∧ ∀ x ∈ r.2.1.cps.toList, x < 1114112) ∧ ∀ i, r.2.2 = some i → i.natAbs < 10000) : PalOk cs (ws ++ [r]) :=
  ⟨h.nc, by rw [List.length_append]; exact n, h.cn, fun x hx => (List.mem_append.mp hx).elim (h.wn x) fun z => by rw [List.mem_singleton.mp z]; exact ok⟩
theorem log_small {i : Int} (h : i.natAbs < 10000) : i.natAbs.log2 < 1920 := by
  by_cases z : i.natAbs = 0
  · rw [z]; decide
  · have := (Nat.log2_lt z).mpr (show i.natAbs < 2 ^ 14 from Nat.lt_of_lt_of_le h (by decide))
    omega
theorem fineAll_map {α : Type} {f : α → PyData} : ∀ {l : List α}, (∀ x ∈ l, fineAll.fine (f x)) → fineAll (l.map f)
  | [], _ => trivial
  | x :: r, h => ⟨h x List.mem_cons_self, fineAll_map fun y hy => h y (List.mem_cons_of_mem _ hy)⟩
theorem costAll_map {α : Type} {f : α → PyData} {b : Nat} : ∀ {l : List α}, (∀ x ∈ l, costAll.cost (f x) ≤ b) → costAll (l.map f) ≤ l.length * (b + 2)
  | [], _ => Nat.zero_le _
  | x :: r, h => by
    have h1 := h x List.mem_cons_self
    have h2 := costAll_map (l := r) fun y hy => h y (List.mem_cons_of_mem _ hy)
    show costAll.cost (f x) + 2 + costAll (r.map f) ≤ (r.length + 1) * (b + 2)
    rw [Nat.succ_mul]
    omega
theorem depthAll_map {α : Type} {f : α → PyData} {b : Nat} : ∀ {l : List α}, (∀ x ∈ l, (f x).depth ≤ b) → PyData.depthAll (l.map f) ≤ b
  | [], _ => Nat.zero_le _
  | x :: r, h => by
    show max (f x).depth (PyData.depthAll (r.map f)) ≤ b
    exact Nat.max_le.mpr ⟨h x List.mem_cons_self, depthAll_map fun y hy => h y (List.mem_cons_of_mem _ hy)⟩
theorem fine_col {c : Col} (h : c.1.length ≤ 9 ∧ (∀ x ∈ c.1.cps.toList, x < 1114112) ∧ c.2.1.natAbs < 10000 ∧ c.2.2.1.natAbs < 10000 ∧ c.2.2.2.natAbs < 10000) : fineAll.fine (colD c) :=
  ⟨fun x hx => Nat.lt_trans (h.2.1 x hx) (by decide), log_small h.2.2.1, log_small h.2.2.2.1, log_small h.2.2.2.2, trivial⟩
theorem fine_opt {o : Option Int} (h : ∀ i, o = some i → i.natAbs < 10000) : fineAll.fine (optD o) := by
  cases o with
  | none => trivial
  | some i => exact log_small (h i rfl)
theorem pal_fine {cs : List Col} {ws : List Wsh} (h : PalOk cs ws) : fineAll.fine (palD cs ws) :=
  ⟨fineAll_map fun c hc => fine_col (h.cn c hc), fineAll_map fun r hr => ⟨fun x hx => Nat.lt_trans ((h.wn r hr).1.2 x hx) (by decide), fun x hx => Nat.lt_trans ((h.wn r hr).2.1.2 x hx) (by decide), fine_opt (h.wn r hr).2.2, trivial⟩, trivial⟩
theorem cost_opt (o : Option Int) : costAll.cost (optD o) ≤ 1921 := by
  cases o with
  | none => decide
  | some i => exact Nat.le_refl _
theorem pal_cost {cs : List Col} {ws : List Wsh} (h : PalOk cs ws) : costAll.cost (palD cs ws) ≤ 1000000 := by
  have h1 : costAll (cs.map colD) ≤ cs.length * (10000 + 2) := costAll_map fun c hc => by
    have := (h.cn c hc).1
    show (10 * c.1.length + 2) + 2 + (1921 + 2 + (1921 + 2 + (1921 + 2 + 0))) + 3 ≤ 10000
    omega
  have h2 : costAll (ws.map washD) ≤ ws.length * (10000 + 2) := costAll_map fun r hr => by
    have a := (h.wn r hr).1.1
    have b := (h.wn r hr).2.1.1
    have c := cost_opt r.2.2
    show (10 * r.1.length + 2) + 2 + ((10 * r.2.1.length + 2) + 2 + (costAll.cost (optD r.2.2) + 2 + 0)) + 3 ≤ 10000
    omega
  have h3 := Nat.mul_le_mul_right 10002 h.nc
  have h4 := Nat.mul_le_mul_right 10002 h.nw
  show (costAll (cs.map colD) + 3) + 2 + ((costAll (ws.map washD) + 3) + 2 + 0) + 3 ≤ 1000000
  omega
theorem depth_opt (o : Option Int) : (optD o).depth = 0 := by cases o <;> rfl
theorem pal_depth (cs : List Col) (ws : List Wsh) : (palD cs ws).depth ≤ 3 := by
  have h1 : PyData.depthAll (cs.map colD) ≤ 1 := depthAll_map fun c _ => by show 1 ≤ 1; decide
  have h2 : PyData.depthAll (ws.map washD) ≤ 1 := depthAll_map fun r _ => by
    show max 0 (max 0 (max (optD r.2.2).depth 0)) + 1 ≤ 1
    rw [depth_opt]
    decide
  show max (PyData.depthAll (cs.map colD) + 1) (max (PyData.depthAll (ws.map washD) + 1) 0) + 1 ≤ 3
  omega
end Pot

namespace Pot
open PySem PySem.Spec PyProof.Rows L2
/-! ### a box of three numbers whose last is at most n -/
def Bq (H : Hp) (b : Addr) (n : Nat) : Prop := ∃ x y z : Int, H b = some (.lst [.int x, .int y, .int z]) ∧ 0 ≤ z ∧ z ≤ n
section
variable {H H' : Hp} {b p : Addr} {n m : Nat} {o : HO}
theorem Bq.bx (B : Bq H b n) : Bx H b := by
  obtain ⟨x, y, z, h, _⟩ := B
  exact ⟨x, y, z, h⟩
theorem Bq.same (B : Bq H b n) (s : Same H H') : Bq H' b n := by
  obtain ⟨x, y, z, h, h2⟩ := B
  exact ⟨x, y, z, s _ _ h, h2⟩
theorem Bq.put (B : Bq H b n) (h : H p = none) : Bq (upd H p o) b n := B.same (same_upd h)
theorem Bq.wr (B : Bq H b n) (h : p ≠ b) : Bq (upd H p o) b n := by
  obtain ⟨x, y, z, e, h2⟩ := B
  exact ⟨x, y, z, by rw [upd_ne h.symm]; exact e, h2⟩
theorem Bq.mono (B : Bq H b n) (h : n ≤ m) : Bq H b m := by
  obtain ⟨x, y, z, e, h1, h2⟩ := B
  exact ⟨x, y, z, e, h1, by omega⟩
theorem Bq.ne (B : Bq H b n) (h : H p = none) : p ≠ b := B.bx.ne h
theorem Live.q (B : Bq H b n) : Live [b] H := Live.one B.bx
end
theorem b01 (k : Bool) : -(2 ^ 64 : Int) < (if k = true then 1 else 0) ∧ (if k = true then 1 else 0) < (2 ^ 64 : Int) := by cases k <;> decide
theorem CDivW.of {i j : Int} (h0 : 0 < j) (h1 : j < 2 ^ 64) : CDivW i j := by
  refine ⟨h0, ?_⟩
  have z : j.natAbs ≠ 0 := by omega
  have := (Nat.log2_lt z).mpr (show j.natAbs < 2 ^ 64 by omega)
  omega
mutual
theorem gd_lay {m : Nat} : ∀ d : PyData, gd m d → d.canLay0 = true
  | .none, _ => rfl
  | .bool _, _ => rfl
  | .int _, _ => rfl
  | .str x, g => by
    show x.cps.all (fun c => decide (c < 0x110000)) = true
    rw [← Array.all_toList, List.all_eq_true]
    exact fun c hc => decide_eq_true (g.2 c hc)
  | .list xs, g => gdAll_lay xs g
  | .tuple xs, g => gdAll_lay xs g
  | .dict _, g => g.elim
theorem gdAll_lay {m : Nat} : ∀ ds : List PyData, gdAll m ds → PyData.canLayAll0 ds = true
  | [], _ => rfl
  | x :: xs, g => by
    show (x.canLay0 && PyData.canLayAll0 xs) = true
    rw [gd_lay x g.1, gdAll_lay xs g.2]; rfl
end
theorem Th.shaped {m C D W : Nat} {d : PyData} (h : Th m C D W d) (hD : D ≤ 64) : SeqAt.shaped d = true := by
  unfold SeqAt.shaped
  rw [gd_lay d h.g, decide_eq_true (Nat.le_trans h.d hD)]; rfl
theorem gd_shaped {m : Nat} {d : PyData} (h : gd m d) (hD : d.depth ≤ 64) : SeqAt.shaped d = true := by
  unfold SeqAt.shaped
  rw [gd_lay d h, decide_eq_true hD]; rfl
end Pot

namespace Pot
open PySem PySem.Spec PyProof.Rows L2
/-! ### words of letters -/
/-- at most n letters a to z -/
def Wd (n : Nat) (z : Str) : Prop := z.length ≤ n ∧ ∀ c ∈ z.cps.toList, 97 ≤ c ∧ c ≤ 122
theorem Wd.mono {n m : Nat} {z : Str} (h : Wd n z) (k : n ≤ m) : Wd m z := ⟨Nat.le_trans h.1 k, h.2⟩
theorem wd_add {n m : Nat} {a b : Str} (h : Wd n a) (k : Wd m b) : Wd (n + m) (a ++ b) := by
  refine ⟨by rw [strLen_append]; exact Nat.add_le_add h.1 k.1, fun c hc => ?_⟩
  have e : (a ++ b).cps.toList = a.cps.toList ++ b.cps.toList := by
    show (a.cps ++ b.cps).toList = _
    simp
  rw [e] at hc
  exact (List.mem_append.mp hc).elim (h.2 c) (k.2 c)
def az : List Nat := [97, 98, 99, 100, 101, 102, 103, 104, 105, 106, 107, 108, 109, 110, 111, 112, 113, 114, 115, 116, 117, 118, 119, 120, 121, 122]
theorem az_cps : (Str.ofString "abcdefghijklmnopqrstuvwxyz").cps.toList = az := by decide +kernel
theorem az_at : ∀ k : Nat, k < 26 → atI az ((k : Nat) : Int) = some (97 + k) := by unfold az; decide
theorem az_ix {i : Int} (h0 : 0 ≤ i) (h1 : i < 26) : atI (Str.ofString "abcdefghijklmnopqrstuvwxyz").cps.toList i = some (97 + i.toNat) := by
  rw [az_cps]
  have h := az_at i.toNat (by omega)
  rw [show ((i.toNat : Nat) : Int) = i by omega] at h
  exact h
theorem wd_sign {c : Nat} (h0 : 97 ≤ c) (h1 : c ≤ 122) : Wd 1 ⟨#[c]⟩ := ⟨Nat.le_refl _, fun d hd => by
  have e : d = c := by simpa using hd
  subst e; exact ⟨h0, h1⟩⟩
theorem wd_letter {i : Int} (h0 : 0 ≤ i) (h1 : i < 26) : Wd 1 ⟨#[97 + i.toNat]⟩ := wd_sign (by omega) (by omega)
theorem wd_nil : Wd 0 Str.empty := ⟨Nat.le_refl _, fun c hc => by have : c ∈ ([] : List Nat) := hc; simp at this⟩
theorem wd_join : ∀ {ys : List Str}, (∀ y ∈ ys, Wd 1 y) → Wd ys.length (Str.join Str.empty ys)
  | [], _ => wd_nil
  | [x], h => h x List.mem_cons_self
  | x :: y :: r, h => by
    have ih := wd_join (ys := y :: r) fun z hz => h z (List.mem_cons_of_mem _ hz)
    show Wd _ (x ++ Str.empty ++ Str.join Str.empty (y :: r))
    have h1 := wd_add (wd_add (h x List.mem_cons_self) wd_nil) ih
    exact h1.mono (by simp only [List.length_cons]; omega)
theorem cut_mem {z : Str} {lo hi : Option Int} {c : Nat} (h : c ∈ (cutS z lo hi).cps.toList) : c ∈ z.cps.toList := by
  unfold cutS at h
  have h2 : c ∈ (z.cps.toList.drop (HT.sIx z.length 0 lo)).take (HT.sIx z.length z.length hi - HT.sIx z.length 0 lo) := by simpa using h
  exact List.mem_of_mem_drop (List.mem_of_mem_take h2)
theorem cut_len (z : Str) (lo hi : Option Int) : (cutS z lo hi).length ≤ HT.sIx z.length z.length hi - HT.sIx z.length 0 lo := by
  unfold cutS
  show (List.toArray _).size ≤ _
  rw [List.size_toArray]
  exact List.length_take_le ..
theorem wd_head {n k : Nat} {z : Str} (h : Wd n z) : Wd k (cutS z none (some (k : Int))) := by
  refine ⟨Nat.le_trans (cut_len z none (some (k : Int))) ?_, fun c hc => h.2 c (cut_mem hc)⟩
  rw [HT.sIx_nat]
  omega
theorem wd_tail {n k : Nat} {z : Str} (h : Wd n z) : Wd (z.length - k) (cutS z (some (k : Int)) none) := by
  refine ⟨Nat.le_trans (cut_len z (some (k : Int)) none) ?_, fun c hc => h.2 c (cut_mem hc)⟩
  rw [HT.sIx_nat, HT.sIx_none]
  omega
theorem wd_cut {n : Nat} {z : Str} {lo hi : Option Int} (h : Wd n z) : Wd n (cutS z lo hi) := by
  refine ⟨Nat.le_trans (cut_len z lo hi) ?_, fun c hc => h.2 c (cut_mem hc)⟩
  have := HT.sIx_le z.length z.length (Nat.le_refl _) hi
  have := h.1
  omega
theorem wd_small {n : Nat} {z : Str} (h : Wd n z) (k : n ≤ 1000) : z.length ≤ sizeLine := Nat.le_trans h.1 (Nat.le_trans k (by decide))
theorem wd_codes {n : Nat} {z : Str} (h : Wd n z) : ∀ x ∈ z.cps.toList, x < 1114112 := fun x hx => by have := (h.2 x hx).2; omega
section
variable {K : PySem.W.Frag}
theorem kp_seq {d c l : Addr} {H H' : Hp} {xs : List V} (k : Kp d c H H') (n1 : l ≠ d) (n2 : l ≠ c) (h : SqL K H l xs) : SqL K H' l xs := by
  rcases h with (h | ⟨o, h⟩) | h
  · exact .inl (.inl (k _ _ n1 n2 h))
  · exact .inl (.inr ⟨o, k _ _ n1 n2 h⟩)
  · exact .inr h
end
end Pot

namespace Pot
open PySem PySem.Spec PyProof.Rows L2
/-- a row that tells of these two -/
def mat (a : Option Str) (b : Str) (r : Wsh) : Bool := decide (some r.1 = a) && decide (r.2.1 = b)
def namD : Option Str → PyData
  | none => .none
  | some z => .str z
theorem washF_filter (a : Option Str) (b : Str) : ∀ ws : List Wsh, washF ws a b = match ws.filter (mat a b) with
    | [] => some 0
    | r :: _ => r.2.2
  | [] => rfl
  | r :: ws => by
    show (if some r.1 = a ∧ r.2.1 = b then r.2.2 else washF ws a b) = _
    rw [List.filter_cons]
    by_cases h : some r.1 = a ∧ r.2.1 = b
    · have e : mat a b r = true := by unfold mat; rw [decide_eq_true h.1, decide_eq_true h.2]; rfl
      rw [if_pos h, if_pos e]
    · have e : ¬ mat a b r = true := by
        unfold mat
        rw [Bool.and_eq_true, decide_eq_true_eq, decide_eq_true_eq]
        exact h
      rw [if_neg h, if_neg e]
      exact washF_filter a b ws
theorem str_beq (x y : Str) : (x == y) = decide (x = y) := by
  by_cases h : x = y
  · subst h; rw [decide_eq_true rfl]; exact beq_self_eq_true x
  · rw [decide_eq_false h]; exact beq_false_of_ne h
theorem eqv_mat (a : Option Str) (b : Str) (r : Wsh) : PyData.eqv (.tuple [.str r.1, .str r.2.1]) (.tuple [namD a, .str b]) = mat a b r := by
  unfold mat
  cases a with
  | none =>
    rw [decide_eq_false (by intro z; cases z)]
    rfl
  | some z =>
    show ((r.1 == z) && ((r.2.1 == b) && true)) = _
    rw [str_beq, str_beq, Bool.and_true]
    congr 1
    by_cases h : r.1 = z
    · rw [decide_eq_true h, decide_eq_true (by rw [h])]
    · rw [decide_eq_false h, decide_eq_false fun q => h (Option.some.inj q)]
section
variable {K : PySem.W.Frag} {H : Hp}
theorem nam_dp : ∀ a : Option Str, Dp K H (namV a) (namD a)
  | none => .non
  | some z => .str z
theorem dpAll_opts : ∀ l : List Wsh, DpAll K H (l.map fun r => optV r.2.2) (l.map fun r => optD r.2.2)
  | [] => .nil
  | r :: l => .cons (opt_dp r.2.2) (dpAll_opts l)
end
/-- signs that there are -/
def Sg (z : Str) : Prop := ∀ x ∈ z.cps.toList, x < 1114112
theorem strOk_len {z : Str} (h : Sg z) : PyData.strOk z = true := by
  unfold PyData.strOk
  rw [Array.all_eq_true_iff_forall_mem]
  intro x hx
  exact decide_eq_true (h x (Array.mem_toList_iff.mpr hx))
theorem shaped_two {x y : Str} (h : Sg x) (k : Sg y) : SeqAt.shaped (.tuple [.str x, .str y]) = true := by
  show (PyData.strOk x && (PyData.strOk y && true)) && decide (max 0 (max 0 0) + 1 ≤ 64) = true
  rw [strOk_len h, strOk_len k]
  rfl
theorem shaped_nam {a : Option Str} {y : Str} (h : ∀ z, a = some z → Sg z) (k : Sg y) : SeqAt.shaped (.tuple [namD a, .str y]) = true := by
  cases a with
  | none =>
    show (true && (PyData.strOk y && true)) && decide (max 0 (max 0 0) + 1 ≤ 64) = true
    rw [strOk_len k]
    rfl
  | some z => exact shaped_two (h z rfl) k
theorem shaped_opts (l : List Wsh) : SeqAt.shaped (.list (l.map fun r => optD r.2.2)) = true := by
  have h1 : ∀ l : List Wsh, PyData.canLayAll0 (l.map fun r => optD r.2.2) = true := by
    intro l
    induction l with
    | nil => rfl
    | cons r l ih =>
      show (PyData.canLay0 (optD r.2.2) && PyData.canLayAll0 (l.map fun r => optD r.2.2)) = true
      rw [ih]
      cases r.2.2 <;> rfl
  have h2 : PyData.depthAll (l.map fun r => optD r.2.2) ≤ 0 := depthAll_map fun r _ => by rw [depth_opt]; exact Nat.le_refl _
  show (PyData.canLayAll0 (l.map fun r => optD r.2.2) && decide (PyData.depthAll (l.map fun r => optD r.2.2) + 1 ≤ 64)) = true
  rw [h1, decide_eq_true (by omega)]
  rfl
end Pot

namespace Pot
open PySem PySem.Spec PyProof.Rows L2
section
variable {X : Cx} {K : PySem.W.Frag}
/-- len of a set of ints -/
def rLenSet (w : World) : List V → Hp → VK → Prop := fun xs H Q => ∃ (a : Addr) (S : Int → Bool) (n : Nat), xs = [V.ref a] ∧ H a = some (SetO w a S n) ∧ Q (.int n) H
theorem cr_lenSet : CallR X (.builtin "len") (rLenSet X.w) := by
  intro pins s σ H vs us Q I r h
  obtain ⟨a, S, n, rfl, ha, q⟩ := h
  rw [Vals.ref1 r]
  obtain ⟨o, es, ep, t, ho, hex, hd, _, _, _, hb, hf, rfl, _⟩ := setO_get I ha
  exact PySem.call_len_set ho hex hd hf (by unfold scanBound at hb; omega) ⟨.int _, H, I.tok _, ⟨_, rfl⟩, q⟩
theorem kc_lenSet {w : World} (hw : X.w = w := by rfl) : CallR X (.builtin "len") (rLenSet w) := by subst hw; exact cr_lenSet
/-- repr of any data -/
def rReprA (K : PySem.W.Frag) : List V → Hp → VK → Prop := fun xs H Q => ∃ (x : V) (d : PyData), xs = [x] ∧ Dp K H x d ∧ fineAll.fine d ∧ d.depth ≤ 60 ∧ costAll.cost d ≤ 16777216 ∧ Q (.str d.shown) H
theorem cr_reprA (gd : X.A.guards = some []) (hu : X.A.units + 64 < cLine) : CallR X (.builtin "repr") (rReprA X.K) := by
  intro pins s σ H vs us Q I r h
  obtain ⟨x, d, rfl, dp, sh, dep, sz, q⟩ := h
  obtain ⟨u, rfl, rx⟩ := vals1 r
  have sz2 := Nat.le_trans (shown_len d sh) (by rw [sizeLine_eq]; exact sz : costAll.cost d ≤ sizeLine)
  cases x with
  | ref a =>
    cases rx
    obtain ⟨as, rd⟩ := Dp.reads I d (.ref a) (.ref a) dp rfl
    refine repr_of_reads' rd (fine_show d sh) (fun z => ?_) gd (by omega) (fun _ _ e => e) (fun h' u tk k => ⟨.str d.shown, H, I.kept k, ⟨u, rfl⟩, q⟩) sz2
    rw [dp_noDict dp] at z
    cases z
  | int i =>
    cases dp
    obtain ⟨t, rfl⟩ := rx
    exact PySem.P.repr_of_int sh ⟨.str _, H, I.tok _, ⟨_, rfl⟩, q⟩
  | str z =>
    cases dp
    obtain ⟨t, rfl⟩ := rx
    exact PySem.P.repr_of_str ⟨.str _, H, I.tok _, ⟨_, rfl⟩, q⟩ sz2
  | bl b =>
    cases dp
    cases rx
    refine PySem.P.repr_of_bool ⟨.str _, H, I.tok _, ⟨_, rfl⟩, ?_⟩
    exact q
  | non =>
    cases dp
    cases rx
    exact PySem.P.repr_of_none ⟨.str _, H, I.tok _, ⟨_, rfl⟩, q⟩
  | _ => cases dp
theorem kc_reprA (gd : X.A.guards = some []) (hu : X.A.units + 64 < cLine) (h : X.K = K := by rfl) : CallR X (.builtin "repr") (rReprA K) := h ▸ cr_reprA gd hu
end
theorem short_of {α : Type} [DecidableEq α] : ∀ {ns : List α}, ¬ ns.Nodup → ∃ ns' : List α, ns'.length < ns.length ∧ ∀ k ∈ ns, k ∈ ns'
  | [], h => (h List.nodup_nil).elim
  | x :: ns, h => by
    by_cases hx : x ∈ ns
    · exact ⟨ns, by simp, fun k hk => by
        rcases List.mem_cons.mp hk with e | e
        · rw [e]; exact hx
        · exact e⟩
    · obtain ⟨ns', l, s⟩ := short_of (ns := ns) fun hn => h (List.nodup_cons.mpr ⟨hx, hn⟩)
      exact ⟨x :: ns', by simp only [List.length_cons]; omega, fun k hk => by
        rcases List.mem_cons.mp hk with e | e
        · rw [e]; exact List.mem_cons_self
        · exact List.mem_cons_of_mem _ (s k e)⟩
theorem set_count {ks ns : List Int} (hk : ks.Nodup) (h : ∀ k, k ∈ ks ↔ k ∈ ns) : ks.length ≤ ns.length ∧ (ks.length = ns.length ↔ ns.Nodup) := by
  have le := nodup_le hk fun k x => (h k).mp x
  refine ⟨le, fun e => ?_, fun hn => Nat.le_antisymm le (nodup_le hn fun k x => (h k).mpr x)⟩
  by_cases hn : ns.Nodup
  · exact hn
  · obtain ⟨ns', l, s⟩ := short_of hn
    have := nodup_le hk fun k x => s k ((h k).mp x)
    omega
end Pot

namespace Pot
open PySem PySem.Spec PyProof.Rows L2
section
variable {X : Cx} {K : PySem.W.Frag}
theorem ko_inD (hu : X.A.units + 65 < cLine) (h : X.K = K := by rfl) : OpR X (compareOp .In) (rInD K) := h ▸ op_inD hu
theorem ko_notInD (hu : X.A.units + 65 < cLine) (h : X.K = K := by rfl) : OpR X (compareOp .NotIn) (rNotInD K) := h ▸ op_notInD hu
/-- a text thrice -/
def rRep3 : R2 := fun x y H Q => ∃ z : Str, x = .str z ∧ y = .int 3 ∧ z.length ≤ 100000 ∧ ∀ z' : Str, z'.length ≤ 3 * z.length → (∀ c ∈ z'.cps.toList, c ∈ z.cps.toList) → Q (.str z') H
theorem mul3_len (z : Str) : (Txt.mul z 3).length ≤ 3 * z.length ∧ ∀ c ∈ (Txt.mul z 3).cps.toList, c ∈ z.cps.toList := by
  unfold Txt.mul
  rw [if_neg (show ¬ (3 : Int) < 1 by decide)]
  split
  · exact ⟨by omega, fun c h => h⟩
  · constructor
    · show Array.size _ ≤ _
      simp [List.replicate]
      show z.cps.size + (z.cps.size + z.cps.size) ≤ 3 * z.cps.size
      omega
    · intro c h
      simp [List.replicate] at h
      simpa using h
theorem op_rep3 : OpR X (binaryOp .Mult) rRep3 := by
  intro pins sh sg H xv yv v1 u1 Q I r1 r2 h
  obtain ⟨z, rfl, rfl, hz, q⟩ := h
  obtain ⟨tk1, rfl⟩ := r1
  obtain ⟨tk2, rfl⟩ := r2
  have m3 := mul3_len z
  refine SB.mul ⟨by decide, fun _ _ hh => ?_, fun _ _ => ?_⟩ (fun tt kk => ⟨.str (Txt.mul z 3), H, I.tok _, ⟨_, rfl⟩, q _ m3.1 m3.2⟩)
  · have : ((2 : Int) ^ 63 - 1) / 3 = 3074457345618258602 := by decide
    omega
  · have e : (3 : Int).toNat = 3 := rfl
    rw [e]
    show decide _ = false
    refine decide_eq_false ?_
    have := sizeLine_eq
    omega
end
end Pot

namespace Pot
open PySem PySem.Spec PyProof.Rows L2
open Sem (wp)
/-! ### enumerate of a list or a tuple -/
set_option maxHeartbeats 1000000 in
theorem en_new {v : Value} {ob : Obj} {Ok : Heap → Prop} (B : Begins v ob Ok) :
    Meets (Builtin.«enumerate.__new__» ⟨[.type "enumerate", v], []⟩) (fun _ R s => Ok s.heap ∧ R (.ok (.ret (.ref (s.heap.push ob).objs.size))) { s with heap := (s.heap.push ob).push { cls := .type "enumerate", data := .fields #[.none, .bool false, .ref s.heap.objs.size, rawInt 0, .none, .none] } }) :=
  .of_wp fun prog w A R st hst => by
    obtain ⟨hp, gl, dd, tt, oo⟩ := st; obtain ⟨ok1, fin⟩ := hst; have isub := sub_enumerate
    have go : ∀ {A1 : Around} {E1 : Value → Shared → Prop} {Q1 : Value → Shared → Prop}, Q1 (.ref hp.objs.size) ⟨hp.push ob, gl, dd, tt, oo⟩ → wpAny (model prog w) A1 (pyIter v) Q1 E1 ⟨hp, gl, dd, tt, oo⟩ := fun z => B.iter prog w _ _ ⟨hp, gl, dd, tt, oo⟩ _ ok1 z
    wp_walk using go
    refine wpAny_stack_any fun stk => wpAny_pure ?_
    split
    · rename_i cc _ _ _ _ _; cases (cc == Value.type "enumerate") <;> (wp_walk using go; exact ⟨_, rfl, fin⟩)
    · wp_walk using go; exact ⟨_, rfl, fin⟩
/-- some untracked cells written, nothing new -/
theorem inv_ch {X : Cx} {pins : List (Addr × Obj)} {σ : L2.St} {H : Hp} {s : Shared} {h2 : Heap} {tk : Nat} {ch : List Addr} (I : Inv X pins σ H s) (kp : ∀ b o, b ∉ ch → s.heap.get? b = some o → h2.get? b = some o) (fo : ∀ b ∈ ch, FpOk X pins H b) :
    Inv X pins σ H { s with heap := h2, toks := tk } := by
  have out : ∀ c u, H c = some u → c ∉ ch := fun c u e z => by have := (fo c z).1; rw [this] at e; cases e
  refine I.step (g' := s.gens) (d' := s.drawn) (ch := ch) (fun c hc => let ⟨_, a2, _, a4, a5, a6⟩ := fo c hc; ⟨a4, a2, a5, a6⟩) (fun c o _ _ n e _ => kp c o n e) (fun c o _ _ n e _ => ⟨o.slots, kp c o n e⟩) (fun _ _ _ _ z => z) (fun c o n e => ⟨o, kp c o n e⟩) (fun _ _ z => z) (fun _ _ _ z => z) (fun c ps e => ⟨#[], by rw [e]; simp⟩) (fun mm hm => ?_) (fun c u e => ?_) I.bare
  · obtain ⟨o, e1, e2, ho, rest⟩ := hm; exact ⟨o, e1, e2, kp _ o (fun z => (fo _ z).2.1 rfl) ho, rest⟩
  · refine (I.hok c u e).stay (fun c2 v hc q => kp c2 v ?_ q) (fun _ z => z) fun _ _ z => z
    rcases hc with z | z
    · rw [z]; exact out c u e
    · exact out c2 _ z
def ItT (K : PySem.W.Frag) (a : Addr) : It :=
  ⟨fun i H => ∃ (xs : List V) (x : V), SqT K H a xs ∧ xs[i]? = some x, fun i H v H' => ∃ T x, v = .ref T ∧ H T = none ∧ H' = upd H T (.tup [.int (i : Nat), x]) ∧ ∀ xs, SqT K H a xs → xs[i]? = some x, fun i H => ∃ xs : List V, SqT K H a xs ∧ xs.length ≤ i⟩
/-- an iterator of a tuple that has come to its end -/
theorem drawsEnd {prog : Program} {w : World} {A : Around} (hh : A.handled = none) (it t : Addr) (items : Array Value) (i : Nat) (hi : items[i]? = none) :
    Draws prog w A it [it, t] i (fun _ _ => False) (fun j h => j = i ∧ h.IsTupleIter it t j ∧ h.IsTuple t items) where
  live := fun _ _ st => let ⟨o, ho, _⟩ := st.2.1; ⟨o, ho⟩
  frame := fun _ _ _ st hk => ⟨st.1, st.2.1.at fun o e => hk it (by simp) o e, st.2.2.at fun o e => hk t (by simp) o e⟩
  item := fun j _ _ _ hj st _ => absurd st.1 (Nat.ne_of_lt hj)
  done := fun s Q E st hE => wpAny_nextOf_tuple_end hh st.2.1 st.2.2 hi hE
theorem turn_enT {P : Program} {w : World} {K : PySem.W.Frag} {elts : List Expr} {kk : Nat} {tpos : Pos} (a e it : Addr) (ne1 : e ≠ it) :
    Turn P w K (.Tuple elts kk tpos) (ItT K a) [e, it] e (fun i h => (∃ old, IsEnum h e it (0 + ((i : Nat) : Int)) old) ∧ h.IsTupleIter it a i) where
  mem := by simp
  obj := fun i h st b hb => by
    obtain ⟨⟨old, he⟩, ⟨o, ho, hc, hd⟩⟩ := st
    rcases List.mem_cons.mp hb with z | z
    · rw [z]; exact ⟨_, he, fun v q => nomatch q⟩
    · rw [List.mem_singleton.mp z]; exact ⟨o, ho, fun v q => by rw [hd] at q; cases q⟩
  keep := fun i h h' st k => let ⟨⟨old, he⟩, hi⟩ := st; ⟨⟨old, k e (by simp) _ he⟩, hi.at fun o q => k it (by simp) o q⟩
  item := by
    intro X q1 q2 q3 hc i pins s σ H E I hf st hg; subst q1 q2 q3
    obtain ⟨⟨old, he⟩, hit⟩ := st
    obtain ⟨xs, x, hq, hx⟩ := hg
    obtain ⟨its, vals_, p, _⟩ := I.tuple hq
    obtain ⟨u, hu, ru⟩ := vals_.get hx
    have at_ : its.toArray[i]? = some u := by simpa using hu
    have hlt : i < its.toArray.size := (Array.getElem?_eq_some_iff.mp at_).1
    have nt : ∀ b ∈ [e, it], a ≠ b := fun b hb z => by
      obtain ⟨o, ho, cl, _⟩ := p
      rcases List.mem_cons.mp hb with y | y
      · rw [z, y] at ho
        rw [show s.heap.get? e = _ from he] at ho; cases ho; injection cl with cl; exact absurd cl (by decide)
      · rw [z, List.mem_singleton.mp y] at ho
        obtain ⟨o2, ho2, cl2, _⟩ := hit
        rw [ho2] at ho; cases ho
        rw [cl2] at cl; injection cl with cl; exact absurd cl (by decide)
    have G := GoesN.enumFrom (elts := elts) (x1 := kk) (pos := tpos) 0 (Draws.tuple (prog := X.prog) (w := X.w) (A := X.A.in1) (I.ok.hd hc) it a (nt it (by simp)) its.toArray) e ne1 (by simp [ne1, (nt e (by simp)).symm]) (by simp)
    refine G.goes i s _ _ hlt ⟨⟨old, he⟩, hit, p⟩ fun v h2 tk hY st2 hk _ => ?_
    obtain ⟨T, t, u2, rfl, hn, hu2, hT⟩ := hY
    have eu : u2 = u := Option.some.inj (hu2.symm.trans at_)
    subst eu
    rw [Int.zero_add] at hT
    have new : ObjOk X.prog X.w (upd H T (.tup [.int (i : Nat), x])) h2 T (.tup [.int (i : Nat), x]) := ⟨by show 2 ≤ sizeLine; decide, [.int i t, u2], .cons ⟨_, rfl⟩ (.cons ru .nil), hT⟩
    have I1 : Inv X pins σ (upd H T (.tup [.int (i : Nat), x])) { s with heap := h2, toks := tk } := I.turnedNew (ch := [e, it]) (fun b ob hb q => hk b ob hb q) hf hn new
    refine ⟨.ref T, _, I1, rfl, ⟨T, x, rfl, I.hok.fresh hn, rfl, fun ys hy => by rw [I.tuple_inj hy hq]; exact hx⟩, ⟨st2.1, st2.2.1⟩, fun b hb => ?_⟩
    have hb0 := (hf b hb).1
    have hbT : b ≠ T := by
      rcases List.mem_cons.mp hb with y | y
      · rw [y]; exact Nat.ne_of_lt (Nat.lt_of_lt_of_le (Heap.lt_size he) hn)
      · rw [List.mem_singleton.mp y]
        obtain ⟨o2, ho2, _⟩ := hit
        exact Nat.ne_of_lt (Nat.lt_of_lt_of_le (Heap.lt_size ho2) hn)
    rw [upd_ne hbT]; exact hb0
  done := by
    intro X q1 q2 q3 hc i pins s σ H E I hf st hg; subst q1 q2 q3
    obtain ⟨⟨old, he⟩, hit⟩ := st
    obtain ⟨xs, hq, hx⟩ := hg
    obtain ⟨its, vals_, p, _⟩ := I.tuple hq
    have hl := vals_.length
    have nt : ∀ b ∈ [e, it], a ≠ b := fun b hb z => by
      obtain ⟨o, ho, cl, _⟩ := p
      rcases List.mem_cons.mp hb with y | y
      · rw [z, y] at ho
        rw [show s.heap.get? e = _ from he] at ho; cases ho; injection cl with cl; exact absurd cl (by decide)
      · rw [z, List.mem_singleton.mp y] at ho
        obtain ⟨o2, ho2, cl2, _⟩ := hit
        rw [ho2] at ho; cases ho
        rw [cl2] at cl; injection cl with cl; exact absurd cl (by decide)
    have G := GoesN.enumFrom (elts := elts) (x1 := kk) (pos := tpos) 0 (drawsEnd (prog := X.prog) (w := X.w) (A := X.A.in1) (I.ok.hd hc) it a its.toArray i (by simp; omega)) e ne1 (by simp [ne1, (nt e (by simp)).symm]) (by simp)
    exact G.stops s _ _ ⟨⟨old, he⟩, rfl, hit, p⟩ fun h2 tk hk _ => inv_ch I hk hf
  self := fun _ _ _ _ _ st fin => let ⟨⟨_, he⟩, _⟩ := st; wpAny_pyIter_enum he fin
/-- enumerate(v), v a list or a tuple -/
def iEnA (K : PySem.W.Frag) (ta : TA) : TI := fun σ H R => ta σ H fun vs H1 => ∃ a xs, vs = [.ref a] ∧ ((SqL K H1 a xs ∧ R (Ite K a) H1) ∨ (SqT K H1 a xs ∧ R (ItT K a) H1))
theorem pi_enA {X : Cx} {e : Expr} {ta : TA} {p pos tpos : Pos} {elts : List Expr} {kk : Nat} (hg : Gl X "enumerate") (hm : X.mg "enumerate" = none) (ha : PA X [e] ta) (hs : starEach [e] X.env = [(false, eval e X.env)] := by rfl) :
    PI X (.Tuple elts kk tpos) (.Call (.Name "enumerate" p) [e] [] pos) (iEnA X.K ta) := by
  refine ⟨fun pins s σ H R I hi => ?_⟩
  refine Call_ (ld_blt I hg hm boot_enumerate (PyProof.Rows.callWith_type1 (thn (ha.run pos pins s σ H _ I hi) fun us s1 ⟨vs, H1, I1, r1, q1⟩ => ?_) hs rfl))
  obtain ⟨a, xs, ex, q⟩ := q1
  subst ex
  cases r1 with
  | cons r rr =>
    cases rr; cases r
    rcases q with ⟨hq, q⟩ | ⟨hq, q⟩
    · obtain ⟨its, rv, p2, hz⟩ := I1.list hq
      refine call_enumerate_list p2.isList fun h2 he hit hsz hk => wpAny_pyIter_enum he ?_
      refine ⟨s1.heap.objs.size + 1, [s1.heap.objs.size + 1, s1.heap.objs.size], _, _, H1, rfl, I1.kept (t' := s1.toks) hk, turn_enum a (s1.heap.objs.size + 1) s1.heap.objs.size, ⟨⟨.none, he⟩, hit, Nat.succ_ne_self _⟩, fun b hb => ?_, q⟩
      have hge : s1.heap.objs.size ≤ b := by
        rcases List.mem_cons.mp hb with z | z
        · rw [z]; exact Nat.le_add_right _ _
        · rw [List.mem_singleton.mp z]; exact Nat.le_refl _
      exact I1.fpOk hge (I1.hok.fresh hge)
    · obtain ⟨its, rv, p2, hz⟩ := I1.tuple hq
      refine callType_new F.called_enumerate (by decide) (F.typeCall_enumerate_1 _) (F.newCall_enumerate_1 _) (fun obj => F.args_object_init_2 obj _) F.entry_enumerate_new (en_new (begins_tuple a its.toArray)) ⟨p2, ?_⟩
      have sz : (s1.heap.push { cls := .type "tuple_iterator", data := .fields #[.ref a, .int 0 0] }).objs.size = s1.heap.objs.size + 1 := Heap.size_push ..
      show _ ∧ _
      rw [sz]
      have he : IsEnum ((s1.heap.push { cls := .type "tuple_iterator", data := .fields #[.ref a, .int 0 0] }).push { cls := .type "enumerate", data := .fields #[.none, .bool false, .ref s1.heap.objs.size, rawInt 0, .none, .none] }) (s1.heap.objs.size + 1) s1.heap.objs.size (0 + ((0 : Nat) : Int)) .none := by
        have g := Heap.get?_push_size (s1.heap.push { cls := .type "tuple_iterator", data := .fields #[.ref a, .int 0 0] }) (o := { cls := .type "enumerate", data := .fields #[.none, .bool false, .ref s1.heap.objs.size, rawInt 0, .none, .none] }) rfl
        rw [sz] at g; exact g
      refine ⟨⟨_, he, rfl⟩, wpAny_pyIter_enum he ⟨s1.heap.objs.size + 1, [s1.heap.objs.size + 1, s1.heap.objs.size], _, _, H1, rfl, I1.kept (t' := s1.toks) (fun b o z => Heap.get?_push_of_some _ (Heap.get?_push_of_some _ z)), turn_enT a (s1.heap.objs.size + 1) s1.heap.objs.size (Nat.succ_ne_self _), ⟨⟨.none, he⟩, ⟨_, Heap.get?_push_of_some _ (Heap.get?_push_size _ rfl), rfl, rfl⟩⟩, fun b hb => ?_, q⟩⟩
      have hge : s1.heap.objs.size ≤ b := by
        rcases List.mem_cons.mp hb with z | z
        · rw [z]; exact Nat.le_add_right _ _
        · rw [List.mem_singleton.mp z]; exact Nat.le_refl _
      exact I1.fpOk hge (I1.hok.fresh hge)
theorem walk_enT {K : PySem.W.Frag} {a : Addr} {xs : List V} : Walk (ItT K a) xs.length (fun H => SqT K H a xs) (YPair (fun i => some (.int (i : Nat))) (fun i => xs[i]?)) := by
  refine ⟨fun i _ hi hs => ⟨xs, xs[i], hs, by simp [hi]⟩, fun _ hs => ⟨xs, hs, Nat.le_refl _⟩, fun i H v H2 _ hs y => ?_⟩
  obtain ⟨T, x, e1, e2, e3, e4⟩ := y
  exact ⟨T, .int (i : Nat), x, e1, e2, e3, rfl, e4 xs hs⟩
theorem ko_catA {X : Cx} {K : PySem.W.Frag} (h : X.K = K := by rfl) : OpR X (binaryOp .Add) (rCatA K) := h ▸ op_catA
theorem ki_enA {X : Cx} {K : PySem.W.Frag} {e : Expr} {ta : TA} {p pos tpos : Pos} {elts : List Expr} {kk : Nat} (hg : Gl X "enumerate") (hm : X.mg "enumerate" = none) (ha : PA X [e] ta) (hs : starEach [e] X.env = [(false, eval e X.env)] := by rfl) (h : X.K = K := by rfl)
    : PI X (.Tuple elts kk tpos) (.Call (.Name "enumerate" p) [e] [] pos) (iEnA K ta) := h ▸ pi_enA hg hm ha hs
end Pot

namespace Pot
open PySem PySem.Spec PyProof.Rows L2
open Sem (wp)
/-! ### zip of three lists of one length -/
def It3 (K : PySem.W.Frag) (a b c : Addr) : It :=
  ⟨fun i H => ∃ (xs ys zs : List V) (x y z : V), SqL K H a xs ∧ SqL K H b ys ∧ SqL K H c zs ∧ xs[i]? = some x ∧ ys[i]? = some y ∧ zs[i]? = some z,
   fun i H v H2 => ∃ T x y z, v = .ref T ∧ H T = none ∧ H2 = upd H T (.tup [x, y, z]) ∧ (∀ xs, SqL K H a xs → xs[i]? = some x) ∧ (∀ ys, SqL K H b ys → ys[i]? = some y) ∧ ∀ zs, SqL K H c zs → zs[i]? = some z,
   fun i H => ∃ xs ys zs : List V, SqL K H a xs ∧ SqL K H b ys ∧ SqL K H c zs ∧ xs.length ≤ i ∧ ys.length ≤ i ∧ zs.length ≤ i⟩
/-- an iterator of a list that has come to its end -/
theorem drawsEndL {prog : Program} {w : World} {A : Around} (hh : A.handled = none) (it t : Addr) (items : Array Value) (i : Nat) (hi : items[i]? = none) :
    Draws prog w A it [it, t] i (fun _ _ => False) (fun j h => j = i ∧ h.IsListIter it t j ∧ h.IsList t items) where
  live := fun _ _ st => let ⟨o, ho, _⟩ := st.2.1; ⟨o, ho⟩
  frame := fun _ _ _ st hk => ⟨st.1, st.2.1.at fun o e => hk it (by simp) o e, st.2.2.at fun o e => hk t (by simp) o e⟩
  item := fun j _ _ _ hj st _ => absurd st.1 (Nat.ne_of_lt hj)
  done := fun s Q E st hE => wpAny_nextOf_list_end hh st.2.1 st.2.2 hi hE
theorem turn_z3 {P : Program} {w : World} {K : PySem.W.Frag} {elts : List Expr} {kk : Nat} {tpos : Pos} {a b c z TI TO i1 i2 i3 : Addr} (D : ZipSep3 z TI TO i1 i2 i3 [i1, a] [i2, b] [i3, c]) (n1 : a ≠ i1) (n2 : b ≠ i2) (n3 : c ≠ i3) :
    Turn P w K (.Tuple elts kk tpos) (It3 K a b c) [z, TI, TO, i1, i2, i3] z (fun i h => IsZip h z TI TO .none ∧ IsTupOf3 h TI (.ref i1) (.ref i2) (.ref i3) ∧ (∃ x y u, IsTupOf3 h TO x y u) ∧ h.IsListIter i1 a i ∧ h.IsListIter i2 b i ∧ h.IsListIter i3 c i) where
  mem := by simp
  obj := fun i h st m hm => by
    obtain ⟨hz, hTI, ⟨x, y, u, hTO⟩, ⟨o1, e1, _, d1⟩, ⟨o2, e2, _, d2⟩, ⟨o3, e3, _, d3⟩⟩ := st
    simp only [List.mem_cons, List.not_mem_nil, or_false] at hm
    rcases hm with e | e | e | e | e | e
    · subst e; exact ⟨_, hz, fun v q => nomatch q⟩
    · subst e; exact ⟨_, hTI, fun v q => nomatch q⟩
    · subst e; exact ⟨_, hTO, fun v q => nomatch q⟩
    · subst e; exact ⟨o1, e1, fun v q => by rw [d1] at q; cases q⟩
    · subst e; exact ⟨o2, e2, fun v q => by rw [d2] at q; cases q⟩
    · subst e; exact ⟨o3, e3, fun v q => by rw [d3] at q; cases q⟩
  keep := fun i h h2 st k => by
    obtain ⟨hz, hTI, ⟨x, y, u, hTO⟩, g1, g2, g3⟩ := st
    exact ⟨k z (by simp) _ hz, k TI (by simp) _ hTI, ⟨x, y, u, k TO (by simp) _ hTO⟩, g1.at fun o q => k i1 (by simp) o q, g2.at fun o q => k i2 (by simp) o q, g3.at fun o q => k i3 (by simp) o q⟩
  item := by
    intro X q1 q2 q3 hc i pins s σ H E I hf st hg; subst q1 q2 q3
    obtain ⟨hz, hTI, ⟨x0, y0, u0, hTO⟩, g1, g2, g3⟩ := st
    obtain ⟨xs, ys, us, x, y, u, hqa, hqb, hqc, hx, hy, hu⟩ := hg
    obtain ⟨its1, vs1, p1, _⟩ := I.list hqa
    obtain ⟨its2, vs2, p2, _⟩ := I.list hqb
    obtain ⟨its3, vs3, p3, _⟩ := I.list hqc
    obtain ⟨w1, hw1, r1⟩ := vs1.get hx
    obtain ⟨w2, hw2, r2⟩ := vs2.get hy
    obtain ⟨w3, hw3, r3⟩ := vs3.get hu
    have at1 : its1.toArray[i]? = some w1 := by simpa using hw1
    have at2 : its2.toArray[i]? = some w2 := by simpa using hw2
    have at3 : its3.toArray[i]? = some w3 := by simpa using hw3
    have l1 : i < its1.toArray.size := (Array.getElem?_eq_some_iff.mp at1).1
    have l2 : i < its2.toArray.size := (Array.getElem?_eq_some_iff.mp at2).1
    have l3 : i < its3.toArray.size := (Array.getElem?_eq_some_iff.mp at3).1
    have hh := I.ok.hd hc
    have G := GoesN.zip3 (elts := elts) (x1 := kk) (pos := tpos) D (Draws.list (prog := X.prog) (w := X.w) (A := X.A.in1) hh i1 a n1 its1.toArray) (Draws.list (prog := X.prog) (w := X.w) (A := X.A.in1) hh i2 b n2 its2.toArray) (Draws.list (prog := X.prog) (w := X.w) (A := X.A.in1) hh i3 c n3 its3.toArray)
    refine G.goes i s _ _ (by omega) ⟨hz, hTI, ⟨x0, y0, u0, hTO⟩, ⟨g1, p1.isList⟩, ⟨g2, p2.isList⟩, ⟨g3, p3.isList⟩⟩ fun v h2 tk hY st2 hk _ => ?_
    obtain ⟨T, t1, t2, t3, rfl, hn, e1, e2, e3, hT⟩ := hY
    cases Option.some.inj (e1.symm.trans at1)
    cases Option.some.inj (e2.symm.trans at2)
    cases Option.some.inj (e3.symm.trans at3)
    have new : ObjOk X.prog X.w (upd H T (.tup [x, y, u])) h2 T (.tup [x, y, u]) := ⟨by show 3 ≤ sizeLine; decide, [w1, w2, w3], .cons r1 (.cons r2 (.cons r3 .nil)), hT⟩
    have I1 : Inv X pins σ (upd H T (.tup [x, y, u])) { s with heap := h2, toks := tk } := I.turnedNew (ch := [z, TI, TO, i1, i2, i3]) (fun m ob hm q => hk m ob (fun e => hm (by simp only [List.mem_cons, List.not_mem_nil, or_false] at e ⊢; rcases e with e | e | e | e | e <;> simp [e])) q) hf hn new
    refine ⟨.ref T, _, I1, rfl, ⟨T, x, y, u, rfl, I.hok.fresh hn, rfl, fun l hl => by rw [I.list_inj hl hqa]; exact hx, fun l hl => by rw [I.list_inj hl hqb]; exact hy, fun l hl => by rw [I.list_inj hl hqc]; exact hu⟩, ⟨st2.1, st2.2.1, st2.2.2.1, st2.2.2.2.1.1, st2.2.2.2.2.1.1, st2.2.2.2.2.2.1⟩, fun m hm => ?_⟩
    have hm0 := (hf m hm).1
    have live : ∃ o, s.heap.get? m = some o := by
      obtain ⟨o1, f1, _⟩ := g1
      obtain ⟨o2, f2, _⟩ := g2
      obtain ⟨o3, f3, _⟩ := g3
      simp only [List.mem_cons, List.not_mem_nil, or_false] at hm
      rcases hm with e | e | e | e | e | e
      · subst e; exact ⟨_, hz⟩
      · subst e; exact ⟨_, hTI⟩
      · subst e; exact ⟨_, hTO⟩
      · subst e; exact ⟨_, f1⟩
      · subst e; exact ⟨_, f2⟩
      · subst e; exact ⟨_, f3⟩
    obtain ⟨o, ho⟩ := live
    rw [upd_ne (Nat.ne_of_lt (Nat.lt_of_lt_of_le (Heap.lt_size ho) hn))]; exact hm0
  done := by
    intro X q1 q2 q3 hc i pins s σ H E I hf st hg; subst q1 q2 q3
    obtain ⟨hz, hTI, ⟨x0, y0, u0, hTO⟩, g1, g2, g3⟩ := st
    obtain ⟨xs, ys, us, hqa, hqb, hqc, hx, hy, hu⟩ := hg
    obtain ⟨its1, vs1, p1, _⟩ := I.list hqa
    obtain ⟨its2, vs2, p2, _⟩ := I.list hqb
    obtain ⟨its3, vs3, p3, _⟩ := I.list hqc
    have m1 := vs1.length
    have m2 := vs2.length
    have m3 := vs3.length
    have hh := I.ok.hd hc
    have G := GoesN.zip3 (elts := elts) (x1 := kk) (pos := tpos) D (drawsEndL (prog := X.prog) (w := X.w) (A := X.A.in1) hh i1 a its1.toArray i (by simp; omega)) (drawsEndL (prog := X.prog) (w := X.w) (A := X.A.in1) hh i2 b its2.toArray i (by simp; omega)) (drawsEndL (prog := X.prog) (w := X.w) (A := X.A.in1) hh i3 c its3.toArray i (by simp; omega))
    rw [Nat.min_self, Nat.min_self] at G
    exact G.stops s _ _ ⟨hz, hTI, ⟨x0, y0, u0, hTO⟩, ⟨rfl, g1, p1.isList⟩, ⟨rfl, g2, p2.isList⟩, ⟨rfl, g3, p3.isList⟩⟩ fun h2 tk hk _ => inv_ch (ch := [z, TI, TO, i1, i2, i3]) I (fun m o hm q => hk m o (fun e => hm (by simp only [List.mem_cons, List.not_mem_nil, or_false] at e ⊢; rcases e with e | e | e | e | e <;> simp [e])) q) hf
  self := fun _ _ _ _ _ st fin => wpAny_pyIter_zip st.1 fin
def iZip3 (K : PySem.W.Frag) (ta : TA) : TI := fun σ H R => ta σ H fun vs H1 => ∃ a b c xs ys zs, vs = [.ref a, .ref b, .ref c] ∧ SqL K H1 a xs ∧ SqL K H1 b ys ∧ SqL K H1 c zs ∧ R (It3 K a b c) H1
theorem pi_zip3 {X : Cx} {e e2 e3 : Expr} {ta : TA} {p pos tpos : Pos} {elts : List Expr} {kk : Nat} (hg : Gl X "zip") (hm : X.mg "zip" = none) (ha : PA X [e, e2, e3] ta)
    (hs : starEach [e, e2, e3] X.env = (false, eval e X.env) :: starEach [e2, e3] X.env := by rfl) (hpl : (backTo pos (starEach [e2, e3] X.env)).any (·.1) = false := by rfl) :
    PI X (.Tuple elts kk tpos) (.Call (.Name "zip" p) [e, e2, e3] [] pos) (iZip3 X.K ta) := by
  refine ⟨fun pins s σ H R I hi => ?_⟩
  refine Call_ (ld_blt I hg hm PyProof.Rows.boot_zip (PyProof.Rows.callWith_type1 (thn (ha.run pos pins s σ H _ I hi) fun us s1 ⟨vs, H1, I1, r1, q1⟩ => ?_) hs hpl))
  obtain ⟨a, b, c, xs, ys, zs, ex, qa, qb, qc, q⟩ := q1
  subst ex
  cases r1 with
  | cons ra rr =>
    cases rr with
    | cons rb rr =>
      cases rr with
      | cons rc rr =>
        cases rr; cases ra; cases rb; cases rc
        obtain ⟨its1, _, p1, _⟩ := I1.list qa
        obtain ⟨its2, _, p2, _⟩ := I1.list qb
        obtain ⟨its3, _, p3, _⟩ := I1.list qc
        refine zip_begins3 (begins_list a its1.toArray) (begins_list b its2.toArray) (begins_list c its3.toArray) p1.isList p2.isList p3.isList fun h2 hz hTI hTO f1 f2 f3 hsz hk => wpAny_pyIter_zip hz ?_
        have below : ∀ {l : Addr} {its : List Value} {n : Nat}, s1.heap.get? l = some { cls := .type "list", data := .seq its.toArray n } → ∀ m ∈ [l], m < s1.heap.objs.size := fun h m hm => by rw [List.mem_singleton.mp hm]; exact Heap.lt_size h
        refine ⟨s1.heap.objs.size + 5, [s1.heap.objs.size + 5, s1.heap.objs.size + 3, s1.heap.objs.size + 4, s1.heap.objs.size, s1.heap.objs.size + 1, s1.heap.objs.size + 2], _, _, H1, rfl, I1.kept (t' := s1.toks) hk, turn_z3 (zip_sep3 (N := s1.heap.objs.size) (fp1 := [a]) (fp2 := [b]) (fp3 := [c]) ?_ ?_ ?_) ?_ ?_ ?_, ⟨hz, hTI, ⟨_, _, _, hTO⟩, ⟨_, f1, rfl, rfl⟩, ⟨_, f2, rfl, rfl⟩, ⟨_, f3, rfl, rfl⟩⟩, fun m hm => ?_, q⟩
        · exact fun m hm => by rw [List.mem_singleton.mp hm]; exact p1.lt
        · exact fun m hm => by rw [List.mem_singleton.mp hm]; exact p2.lt
        · exact fun m hm => by rw [List.mem_singleton.mp hm]; exact p3.lt
        · exact Nat.ne_of_lt p1.lt
        · exact Nat.ne_of_lt (Nat.lt_of_lt_of_le p2.lt (Nat.le_add_right _ _))
        · exact Nat.ne_of_lt (Nat.lt_of_lt_of_le p3.lt (Nat.le_add_right _ _))
        · have hge : s1.heap.objs.size ≤ m := by
            simp only [List.mem_cons, List.not_mem_nil, or_false] at hm
            rcases hm with e | e | e | e | e | e <;> (rw [e]; first | exact Nat.le_refl _ | exact Nat.le_add_right _ _)
          exact I1.fpOk hge (I1.hok.fresh hge)
theorem ki_zip3 {X : Cx} {K : PySem.W.Frag} {e e2 e3 : Expr} {ta : TA} {p pos tpos : Pos} {elts : List Expr} {kk : Nat} (hg : Gl X "zip") (hm : X.mg "zip" = none) (ha : PA X [e, e2, e3] ta)
    (hs : starEach [e, e2, e3] X.env = (false, eval e X.env) :: starEach [e2, e3] X.env := by rfl) (hpl : (backTo pos (starEach [e2, e3] X.env)).any (·.1) = false := by rfl) (h : X.K = K := by rfl) :
    PI X (.Tuple elts kk tpos) (.Call (.Name "zip" p) [e, e2, e3] [] pos) (iZip3 K ta) := h ▸ pi_zip3 hg hm ha hs hpl
def Y3 (f g k : Nat → Option V) : Nat → Hp → V → Hp → Prop := fun i H v H2 => ∃ T x y z, v = .ref T ∧ H T = none ∧ H2 = upd H T (.tup [x, y, z]) ∧ f i = some x ∧ g i = some y ∧ k i = some z
theorem walk_z3 {K : PySem.W.Frag} {a b c : Addr} {xs ys zs : List V} (h1 : ys.length = xs.length) (h2 : zs.length = xs.length) : Walk (It3 K a b c) xs.length (fun H => SqL K H a xs ∧ SqL K H b ys ∧ SqL K H c zs) (Y3 (fun i => xs[i]?) (fun i => ys[i]?) (fun i => zs[i]?)) := by
  refine ⟨fun i _ hi hs => ⟨xs, ys, zs, xs[i], ys[i]'(by omega), zs[i]'(by omega), hs.1, hs.2.1, hs.2.2, by simp [hi], by simp [show i < ys.length by omega], by simp [show i < zs.length by omega]⟩, fun _ hs => ⟨xs, ys, zs, hs.1, hs.2.1, hs.2.2, by omega, by omega, by omega⟩, fun i H v H2 _ hs y => ?_⟩
  obtain ⟨T, x, y, z, e1, e2, e3, e4, e5, e6⟩ := y
  exact ⟨T, x, y, z, e1, e2, e3, e4 xs hs.1, e5 ys hs.2.1, e6 zs hs.2.2⟩
end Pot

namespace Pot
open PySem PySem.Spec PyProof.Rows L2
open PySem.Calls
open PySem.W (sortingHeap copyHeap sortLe alike alikeAll keyToks keyToksAll dataLt dataKind KatLex SortsAt sortVals dataType EachIs)
/-! ### sorted of rows that are told apart by parts that can be compared -/
/-- up to the first part in which they differ, that one too, two rows are alike -/
def okCmp : List PyData → List PyData → Bool
  | x :: xs, y :: ys => alike x y && (!PyData.eqv x y || okCmp xs ys)
  | [], [] => true
  | _, _ => false
section
variable {prog : Program} {w : World} {A : Around} {s : Shared}
theorem kat_ok {b fin : Bool} {Q : Bool → Shared → Prop} : ∀ (xs ys : List PyData) (i : Nat) (vs ws : List Value) (as bs : List Addr), ReadsAll s.heap vs xs as → ReadsAll s.heap ws ys bs → okCmp xs ys = true → A.units + min (PyData.depthAll xs) (PyData.depthAll ys) < cLine → (b = true → i = 0 → ∀ x r t, xs = x :: r → x ≠ .tuple t) → fin = decide (xs.length < ys.length) →
    Q (PyProof.Rows.lexLt itemOrd (keyToksAll xs) (keyToksAll ys)) s → KatLex prog w A b fin Q (vs.zip ws) i s := by
  intro xs
  induction xs with
  | nil =>
    intro ys i vs ws as bs ra rb ok hu hb hf hq
    have := PySem.W.katLex_alike (prog := prog) (w := w) (A := A) (s := s) (b := b) (fin := fin) (Q := Q) [] ys i vs ws as bs ra rb
    cases ys with
    | nil => exact this rfl hu hb hf hq
    | cons y ys => cases ok
  | cons x xs ih =>
    intro ys i vs ws as bs ra rb ok hu hb hf hq
    cases ys with
    | nil => cases ok
    | cons y ys =>
      obtain ⟨al, nx⟩ := Bool.and_eq_true_iff.mp ok
      have hf2 : fin = decide (xs.length < ys.length) := by rw [hf]; simp only [List.length_cons, Nat.add_lt_add_iff_right]
      cases ra with
      | cons r rs =>
        cases rb with
        | cons r2 rs2 =>
          rw [List.zip_cons_cons]
          refine PySem.W.kat_cons (PySem.W.eqAt_alike x y A s _ _ _ _ r r2 al (SeqAt.room_head hu) prog w _ _ ?_)
          cases ex : PyData.eqv x y with
          | true =>
            rw [PySem.W.dataLt_all_yes al ex] at hq
            rw [ex] at nx
            exact PySem.W.kat_yes (ih ys (i + 1) _ _ _ _ rs rs2 nx (SeqAt.room_tail hu) (fun _ h0 => absurd h0 (Nat.succ_ne_zero i)) hf2 hq)
          | false =>
            rw [PySem.W.dataLt_all_no al ex] at hq
            refine PySem.W.kat_no (PySem.W.oneLt_alike (fun hbi t => ?_) r r2 al (PySem.W.ne_none_of al ex) (SeqAt.room_head hu) hq)
            obtain ⟨b1, b2⟩ := Bool.and_eq_true_iff.mp hbi
            exact hb b1 (by simpa using b2) x xs t rfl
theorem key_of {h : Heap} {ds : List PyData} {v : Value} {d : PyData} {as : List Addr} (hd : d ∈ ds) (r : Reads h v d as) : (dataKind h ds).keyOf v = some (keyToks d) := by
  have ex : ∃ e, e ∈ ds ∧ ∃ bs, Reads h v e bs := ⟨d, hd, as, r⟩
  have eq1 : (dataKind h ds).keyOf v = some (keyToks ex.choose) := dif_pos ex
  obtain ⟨_, bs, r2⟩ := ex.choose_spec
  rw [eq1, (Reads.unique r2 _ _ r).1]
/-- rows that can be sorted: tuples with a first part, the first parts alike, each two comparable -/
structure RowsCmp (ds : List PyData) : Prop where
  form : ∀ d ∈ ds, ∃ x r, d = .tuple (x :: r)
  first : ∀ x r x2 r2, PyData.tuple (x :: r) ∈ ds → PyData.tuple (x2 :: r2) ∈ ds → alike x x2 = true
  cmp : ∀ xs ys, PyData.tuple xs ∈ ds → PyData.tuple ys ∈ ds → okCmp xs ys = true
theorem sorts_rows {vs : List Value} {ds : List PyData} (e : EachIs (fun v d => ∃ as, Reads s.heap v d as) vs ds) (W : RowsCmp ds) (hu : ∀ d, d ∈ ds → A.units + d.depth < cLine) : SortsAt prog w A s (dataKind s.heap ds) vs := by
  refine ⟨fun v hv => ?_, ?_⟩
  · obtain ⟨d, hd, as, r⟩ := e.left v hv
    exact ⟨_, key_of hd r⟩
  · cases hds : ds with
    | nil =>
      rw [hds] at e
      cases e
      exact ⟨general', fun E x y a b Q ha _ _ => (by obtain ⟨d, _, hd, _⟩ := PySem.W.dataKind_inv ha; exact absurd hd (by simp)), fun h2 => absurd h2 (by simp)⟩
    | cons d0 ds0 =>
      rw [← hds]
      have m0 : d0 ∈ ds := by rw [hds]; exact List.mem_cons_self
      obtain ⟨x0, r0, e0⟩ := W.form d0 m0
      have m0 : PyData.tuple (x0 :: r0) ∈ ds := by rw [← e0]; exact m0
      refine ⟨tuples' (dataType x0 != Value.type "tuple"), ?_, fun h2 E Q hq => ?_⟩
      · intro E x y a b Q ha hb hq
        obtain ⟨d, as, hd, ra, rfl⟩ := PySem.W.dataKind_inv ha
        obtain ⟨d2, as2, hd2, rb, rfl⟩ := PySem.W.dataKind_inv hb
        obtain ⟨x1, r1, rfl⟩ := W.form d hd
        obtain ⟨x2, r2, rfl⟩ := W.form d2 hd2
        have room : A.units + min (PyData.tuple (x1 :: r1)).depth (PyData.tuple (x2 :: r2)).depth < cLine := Nat.lt_of_le_of_lt (Nat.add_le_add_left (Nat.min_le_left _ _) _) (hu _ hd)
        have hq2 : Q (dataLt (.tuple (x1 :: r1)) (.tuple (x2 :: r2))) s := hq
        rw [PySem.W.dataLt_tuple] at hq2
        cases ra with
        | @tuple l o us n _ _ h1 h2 h3 h4 =>
          cases rb with
          | @tuple l2 o2 us2 n2 _ _ k1 k2 k3 k4 =>
            have z1 : us.size = (x1 :: r1).length := by simpa using SeqAt.ReadsAll.length _ _ _ h4
            have z2 : us2.size = (x2 :: r2).length := by simpa using SeqAt.ReadsAll.length _ _ _ k4
            refine PySem.W.kat_lt h1 h3 k1 k3 (kat_ok (prog := prog) (w := w) (A := A) (s := s) (x1 :: r1) (x2 :: r2) 0 _ _ _ _ h4 k4 (W.cmp _ _ hd hd2) (by have := SeqAt.room_in room; omega) (fun hb1 _ xx rr t ex => ?_) (by rw [z1, z2]) hq2)
            obtain ⟨rfl, rfl⟩ := List.cons.inj ex
            rw [← PySem.W.dataType_alike (W.first _ _ _ _ hd m0)] at hb1
            exact PySem.W.dataType_tuple hb1 t
      · obtain ⟨fs, t1, t2, t3⟩ := PySem.W.each_katTups e W.form
        refine PySem.W.kat_kind (T := dataType x0) t1 (by omega) (fun f hf => ?_) (beq_self_eq_true _) hq
        obtain ⟨xx, rr, as, m1, m2⟩ := t3 f hf
        rw [← PySem.W.dataType_alike (W.first _ _ _ _ m1 m0)]
        exact PySem.W.looks_reads m2
end
theorem perm_lift {α β : Type} (f : α → β) {out l : List β} (h : out.Perm l) : ∀ L : List α, L.map f = l → ∃ L2 : List α, L2.Perm L ∧ L2.map f = out := by
  induction h with
  | nil => intro L e; exact ⟨L, .refl _, e⟩
  | cons x _ ih =>
    intro L e
    cases L with
    | nil => cases e
    | cons y L =>
      obtain ⟨e1, e2⟩ := List.cons.inj e
      obtain ⟨L2, p2, m2⟩ := ih L e2
      exact ⟨y :: L2, p2.cons y, by rw [List.map_cons, m2, e1]⟩
  | swap x y l =>
    intro L e
    match L, e with
    | a :: b :: L, e =>
      obtain ⟨e1, e2⟩ := List.cons.inj e
      obtain ⟨e2, e3⟩ := List.cons.inj e2
      exact ⟨b :: a :: L, .swap a b L, by rw [List.map_cons, List.map_cons, e1, e2, e3]⟩
  | trans _ _ ih1 ih2 =>
    intro L e
    obtain ⟨L2, p2, m2⟩ := ih2 L e
    obtain ⟨L3, p3, m3⟩ := ih1 L2 m2
    exact ⟨L3, p3.trans p2, m3⟩
section
variable {X : Cx} {K : PySem.W.Frag}
theorem each_reads {pins : List (Addr × Obj)} {σ : L2.St} {H : Hp} {s : Shared} (I : Inv X pins σ H s) : ∀ {xs : List V} {its : List Value} {ds : List PyData}, Vals xs its → DpAll X.K H xs ds → ∃ L : List (Value × V × PyData), L.map (·.1) = its ∧ L.map (·.2.1) = xs ∧ L.map (·.2.2) = ds ∧ ∀ t ∈ L, RelV t.2.1 t.1 ∧ Dp X.K H t.2.1 t.2.2
  | _, _, _, .nil, .nil => ⟨[], rfl, rfl, rfl, fun _ h => (List.not_mem_nil h).elim⟩
  | _, _, _, .cons (a := x) (b := u) r rs, .cons (d := d) p ps => by
    obtain ⟨L, h1, h2, h3, h4⟩ := each_reads I rs ps
    refine ⟨(u, x, d) :: L, by rw [List.map_cons, h1], by rw [List.map_cons, h2], by rw [List.map_cons, h3], fun t ht => ?_⟩
    rcases List.mem_cons.mp ht with e | e
    · rw [e]; exact ⟨r, p⟩
    · exact h4 t e
/-- sorted of a list of rows: a new list of the same ones -/
def rSortedR (K : PySem.W.Frag) : List V → Hp → VK → Prop := fun vs H Q => ∃ (a : Addr) (xs : List V) (ds : List PyData), vs = [V.ref a] ∧ SqL K H a xs ∧ DpAll K H xs ds ∧ RowsCmp ds ∧ (∀ d ∈ ds, d.depth ≤ 60) ∧
  ∀ (zs : List V) (es : List PyData) (p : Addr), DpAll K H zs es → es.Perm ds → H p = none → Q (.ref p) (upd H p (.lst zs))
theorem cr_sortedR (hu : X.A.units + 70 < cLine) : CallR X (.builtin "sorted") (rSortedR X.K) := by
  intro pins s σ H vs0 us0 Q I r h
  obtain ⟨a, xs, ds, rfl, hs, da, W, dep, q⟩ := h
  obtain ⟨its, rv, hl, hz⟩ := I.list hs
  rw [Vals.ref1 r]
  obtain ⟨L, e1, e2, e3, all⟩ := each_reads I rv da
  have er : EachIs (fun v d => ∃ as, Reads s.heap v d as) its ds := by
    rw [← e1, ← e3]
    clear e1 e2 e3
    induction L with
    | nil => exact .nil
    | cons t L ih =>
      have ht := all t List.mem_cons_self
      exact .cons (Dp.reads I _ _ _ ht.2 ht.1) (ih fun x hx => all x (List.mem_cons_of_mem _ hx))
  have ll : its.length = xs.length := by rw [← e1, ← e2, List.length_map, List.length_map]
  have ln : its.length ≤ sizeLine := by rw [ll]; exact hz
  have er' : EachIs (fun v d => ∃ as, Reads (sortingHeap (copyHeap s.heap its) (s.heap.objs.size + 1) its) v d as) its ds := er.mono fun _ _ ⟨as, r⟩ => ⟨as, PyProof.Rows.Reads.keeps (fun _ _ => PySem.W.sorting_copy_old) r⟩
  have S := sorts_rows (prog := X.prog) (w := X.w) (A := X.A.in1.in1) (s := { s with heap := sortingHeap (copyHeap s.heap its) (s.heap.objs.size + 1) its }) er' W (fun d hd => by have := dep d hd; simp only [Around.in1]; omega)
  refine PySem.W.sorted_vals hl.isList S ln ?_
  generalize eo : sortVals _ false its its = out
  have po : out.Perm its := by
    rw [← eo]
    unfold sortVals
    have := (List.mergeSort_perm (its.zip its) (sortLe (dataKind (sortingHeap (copyHeap s.heap its) (s.heap.objs.size + 1) its) ds).toKeyOrd false fun p : Keyed => PySem.W.keyD (dataKind (sortingHeap (copyHeap s.heap its) (s.heap.objs.size + 1) its) ds) p.1)).map Prod.snd
    rw [List.map_snd_zip (Nat.le_refl _)] at this
    exact this
  obtain ⟨L2, p2, m2⟩ := perm_lift (·.1) po L e1
  have rv2 : Vals (L2.map (·.2.1)) out := by
    rw [← m2]
    clear m2
    have hh : ∀ t ∈ L2, RelV t.2.1 t.1 := fun t ht => (all t (p2.mem_iff.mp ht)).1
    clear p2
    induction L2 with
    | nil => exact .nil
    | cons t L2 ih => exact .cons (hh t List.mem_cons_self) (ih fun x hx => hh x (List.mem_cons_of_mem _ hx))
  have dp2 : DpAll X.K H (L2.map (·.2.1)) (L2.map (·.2.2)) := by
    have hh : ∀ t ∈ L2, Dp X.K H t.2.1 t.2.2 := fun t ht => (all t (p2.mem_iff.mp ht)).2
    clear p2 m2 rv2
    induction L2 with
    | nil => exact .nil
    | cons t L2 ih => exact .cons (hh t List.mem_cons_self) (ih fun x hx => hh x (List.mem_cons_of_mem _ hx))
  have pd : (L2.map (·.2.2)).Perm ds := by rw [← e3]; exact p2.map _
  obtain ⟨ep, hat⟩ := PyProof.Rows.sortedAll_at s.heap its out.toArray
  have fr : H (s.heap.objs.size + 1) = none := I.hok.fresh (Nat.le_succ _)
  exact ⟨.ref _, upd H (s.heap.objs.size + 1) (.lst (L2.map (·.2.1))), I.laid (t' := s.toks) (fun _ _ => PyProof.Rows.sortedAll_old) (Nat.le_succ _) ⟨by rw [List.length_map, p2.length_eq, ← List.length_map (f := fun x : Value × V × PyData => x.1), e1]; exact ln, out, ep, rv2, hat⟩, rfl, q _ _ _ dp2 pd fr⟩
theorem kc_sortedR (hu : X.A.units + 70 < cLine) (h : X.K = K := by rfl) : CallR X (.builtin "sorted") (rSortedR K) := h ▸ cr_sortedR hu
end
end Pot

namespace Pot
open PySem PySem.Spec PyProof.Rows L2
/-! ### a box of three numbers: the second below 2 ^ 62, the last at most n -/
def Bp (H : Hp) (b : Addr) (n : Nat) : Prop := ∃ x y z : Int, H b = some (.lst [.int x, .int y, .int z]) ∧ 0 ≤ z ∧ z ≤ n ∧ 0 ≤ y ∧ y < 2 ^ 62
section
variable {H H' : Hp} {b p : Addr} {n m : Nat} {o : HO}
theorem Bp.bx (B : Bp H b n) : Bx H b := by
  obtain ⟨x, y, z, h, _⟩ := B
  exact ⟨x, y, z, h⟩
theorem Bp.same (B : Bp H b n) (s : Same H H') : Bp H' b n := by
  obtain ⟨x, y, z, h, h2⟩ := B
  exact ⟨x, y, z, s _ _ h, h2⟩
theorem Bp.put (B : Bp H b n) (h : H p = none) : Bp (upd H p o) b n := B.same (same_upd h)
theorem Bp.wr (B : Bp H b n) (h : p ≠ b) : Bp (upd H p o) b n := by
  obtain ⟨x, y, z, e, h2⟩ := B
  exact ⟨x, y, z, by rw [upd_ne h.symm]; exact e, h2⟩
theorem Bp.mono (B : Bp H b n) (h : n ≤ m) : Bp H b m := by
  obtain ⟨x, y, z, e, h1, h2, h3⟩ := B
  exact ⟨x, y, z, e, h1, by omega, h3⟩
theorem Bp.ne (B : Bp H b n) (h : H p = none) : p ≠ b := B.bx.ne h
theorem Live.pw (B : Bp H b n) : Live [b] H := Live.one B.bx
end
end Pot

namespace Pot
open PySem PySem.Spec PyProof.Rows L2
/-! ### the names of cluster C: unlike each other -/
def Nm (z : Str) : Prop := Wd 8 z ∧ 0 < z.length
def ltN (x : Int) : Str := ⟨#[97 + x.toNat]⟩
theorem str_app (a b : Str) : (a ++ b).cps.toList = a.cps.toList ++ b.cps.toList := by
  show (a.cps ++ b.cps).toList = _
  simp
theorem str_eq {a b : Str} (h : a = b) : a.cps.toList = b.cps.toList := by rw [h]
theorem ltN_list (x : Int) : (ltN x).cps.toList = [97 + x.toNat] := rfl
theorem ltN_len (x : Int) : (ltN x).length = 1 := rfl
def vlN (fi stp : Int) (i : Nat) : Int := (fi + stp * (0 + (i : Int))) % 676
def bsN (hd tl : Str) (fi stp : Int) (i : Nat) : Str := hd ++ ltN (vlN fi stp i / 26) ++ ltN (vlN fi stp i % 26) ++ tl
def nmN (hd tl : Str) (fi stp lo : Int) (i : Nat) : Str := if lo = 1 ∧ i % 2 = 1 then bsN hd tl fi stp (i - 1) ++ ltN ((fi + (0 + (i : Int))) % 26) else bsN hd tl fi stp i
def StpN (s : Int) : Prop := s = 1 ∨ s = 3 ∨ s = 5 ∨ s = 7 ∨ s = 25 ∨ s = 675
theorem vlN_pos (fi stp : Int) (i : Nat) : 0 ≤ vlN fi stp i ∧ vlN fi stp i < 676 := ⟨Int.emod_nonneg _ (by decide), Int.emod_lt_of_pos _ (by decide)⟩
theorem bsN_len (hd tl : Str) (fi stp : Int) (i : Nat) : (bsN hd tl fi stp i).length = hd.length + 2 + tl.length := by
  unfold bsN
  rw [strLen_append, strLen_append, strLen_append, ltN_len, ltN_len]
theorem bsN_wd {hd tl : Str} (h1 : Wd 3 hd) (h2 : Wd 2 tl) (fi stp : Int) (i : Nat) : Wd 7 (bsN hd tl fi stp i) ∧ 0 < (bsN hd tl fi stp i).length := by
  have := vlN_pos fi stp i
  refine ⟨wd_add (wd_add (wd_add h1 (wd_letter (by omega) (by omega))) (wd_letter (by omega) (by omega))) h2, ?_⟩
  rw [bsN_len]; omega
theorem nmN_nm {hd tl : Str} (h1 : Wd 3 hd) (h2 : Wd 2 tl) (fi stp lo : Int) (i : Nat) : Nm (nmN hd tl fi stp lo i) := by
  unfold nmN
  have l0 : 0 ≤ (fi + (0 + (i : Int))) % 26 := Int.emod_nonneg _ (by decide)
  have l1 : (fi + (0 + (i : Int))) % 26 < 26 := Int.emod_lt_of_pos _ (by decide)
  by_cases h : lo = 1 ∧ i % 2 = 1
  · rw [if_pos h]
    have b := bsN_wd h1 h2 fi stp (i - 1)
    exact ⟨wd_add b.1 (wd_letter l0 l1), by rw [strLen_append]; have := b.2; omega⟩
  · rw [if_neg h]
    have b := bsN_wd h1 h2 fi stp i
    exact ⟨b.1.mono (by decide), b.2⟩
theorem stp_inj {fi stp : Int} (s : StpN stp) {i j : Nat} (hi : i < 12) (hj : j < 12) (h : vlN fi stp i = vlN fi stp j) : i = j := by
  unfold vlN at h
  rcases s with rfl | rfl | rfl | rfl | rfl | rfl <;> omega
theorem stp_inj26 {fi stp : Int} (s : StpN stp) {i j : Nat} (hi : i < 12) (hj : j < 12) (h : (fi + stp * (0 + (i : Int))) % 26 = (fi + stp * (0 + (j : Int))) % 26) : i = j := by
  rcases s with rfl | rfl | rfl | rfl | rfl | rfl <;> omega
theorem bsN_inj {hd tl : Str} {fi stp : Int} (s : StpN stp) {i j : Nat} (hi : i < 12) (hj : j < 12) (h : bsN hd tl fi stp i = bsN hd tl fi stp j) : i = j := by
  have h2 := str_eq h
  unfold bsN at h2
  simp only [str_app, ltN_list, List.append_assoc, List.append_cancel_left_eq, List.cons_append, List.nil_append, List.cons.injEq] at h2
  have a := vlN_pos fi stp i
  have b := vlN_pos fi stp j
  exact stp_inj (fi := fi) s hi hj (by omega)
theorem nmN_inj {hd tl : Str} {fi stp lo : Int} (s : StpN stp) {i j : Nat} (hi : i < 12) (hj : j < 12) (h : nmN hd tl fi stp lo i = nmN hd tl fi stp lo j) : i = j := by
  unfold nmN at h
  by_cases c1 : lo = 1 ∧ i % 2 = 1 <;> by_cases c2 : lo = 1 ∧ j % 2 = 1
  · rw [if_pos c1, if_pos c2] at h
    have h2 := str_eq h
    rw [str_app, str_app] at h2
    have l : (bsN hd tl fi stp (i - 1)).cps.toList.length = (bsN hd tl fi stp (j - 1)).cps.toList.length := by
      have e1 := bsN_len hd tl fi stp (i - 1)
      have e2 := bsN_len hd tl fi stp (j - 1)
      rw [Array.length_toList, Array.length_toList]
      exact e1.trans e2.symm
    have h3 := (List.append_inj h2 l).1
    have h4 : bsN hd tl fi stp (i - 1) = bsN hd tl fi stp (j - 1) := by
      cases e1 : bsN hd tl fi stp (i - 1) with
      | mk x => cases e2 : bsN hd tl fi stp (j - 1) with
        | mk y =>
          rw [e1, e2] at h3
          exact congrArg Str.mk (Array.toList_inj.mp h3)
    have := bsN_inj s (i := i - 1) (j := j - 1) (by omega) (by omega) h4
    omega
  · rw [if_pos c1, if_neg c2] at h
    have := congrArg Str.length h
    rw [strLen_append, bsN_len, bsN_len, ltN_len] at this
    omega
  · rw [if_neg c1, if_pos c2] at h
    have := congrArg Str.length h
    rw [strLen_append, bsN_len, bsN_len, ltN_len] at this
    omega
  · rw [if_neg c1, if_neg c2] at h
    exact bsN_inj s hi hj h
theorem nodup_map_range {f : Nat → Str} {m : Nat} (h : ∀ i j, i < m → j < m → f i = f j → i = j) : ((List.range m).map f).Nodup := by
  rw [List.Nodup, List.pairwise_map]
  refine List.Pairwise.imp_of_mem (fun {a b} ha hb hab e => ?_) (List.nodup_range (n := m))
  exact hab (h a b (List.mem_range.mp ha) (List.mem_range.mp hb) e)
theorem nmN_nodup {hd tl : Str} {fi stp lo : Int} (s : StpN stp) {m : Nat} (hm : m ≤ 12) : ((List.range m).map (nmN hd tl fi stp lo)).Nodup :=
  nodup_map_range fun i j hi hj h => nmN_inj s (by omega) (by omega) h
theorem letN_nodup {fi stp : Int} (s : StpN stp) {m : Nat} (hm : m ≤ 12) : ((List.range m).map fun i : Nat => ltN ((fi + stp * (0 + (i : Int))) % 26)).Nodup :=
  nodup_map_range fun i j hi hj h => by
    have h2 := str_eq h
    rw [ltN_list, ltN_list] at h2
    have h3 := (List.cons.inj h2).1
    have a0 : 0 ≤ (fi + stp * (0 + (i : Int))) % 26 := Int.emod_nonneg _ (by decide)
    have b0 : 0 ≤ (fi + stp * (0 + (j : Int))) % 26 := Int.emod_nonneg _ (by decide)
    exact stp_inj26 (fi := fi) s (by omega) (by omega) (by omega)
def wordsN : List Str := ["never", "at", "undo", "slots", "done", "wash", "pot", "kind", "fill", "gather", "team", "colour"]
theorem words_eq : Txt.split (Str.ofString "never at undo slots done wash pot kind fill gather team colour") (Str.ofString " ") = wordsN := by decide +kernel
theorem words_nm : ∀ z ∈ wordsN, Nm z := by
  unfold Nm Wd wordsN
  decide +kernel
theorem words_nodup : ∀ j : Nat, j < 12 → ((wordsN ++ wordsN).drop j |>.take 12).Nodup := by
  unfold wordsN
  decide +kernel
theorem words_cut {j m : Nat} (hj : j < 12) (hm : m ≤ 12) : ((wordsN ++ wordsN).drop j |>.take m).Nodup ∧ ((wordsN ++ wordsN).drop j |>.take m).length = m ∧ ∀ z ∈ ((wordsN ++ wordsN).drop j |>.take m), Nm z := by
  refine ⟨?_, ?_, fun z hz => ?_⟩
  · have := words_nodup j hj
    have e : ((wordsN ++ wordsN).drop j |>.take m) = (((wordsN ++ wordsN).drop j |>.take 12).take m) := by rw [List.take_take, Nat.min_eq_left hm]
    rw [e]
    exact this.sublist (List.take_sublist _ _)
  · rw [List.length_take, List.length_drop, List.length_append]
    show min m (12 + 12 - j) = m
    omega
  · have := List.mem_of_mem_drop (List.mem_of_mem_take hz)
    exact (List.mem_append.mp this).elim (words_nm z) (words_nm z)
theorem wd1_sum : ∀ {l : List Str}, (∀ y ∈ l, Wd 1 y) → (l.map (·.length)).sum ≤ l.length
  | [], _ => Nat.le_refl _
  | a :: r, h => by
    have h1 := (h a List.mem_cons_self).1
    have h2 := wd1_sum (l := r) fun y hy => h y (List.mem_cons_of_mem _ hy)
    simp only [List.map_cons, List.sum_cons, List.length_cons]
    omega
end Pot

namespace Pot
open PySem PySem.Spec PyProof.Rows L2
/-! ### the palettes of cluster C -/
structure PalC (cs : List Col) (ws : List Wsh) : Prop where
  ok : PalOk cs ws
  ne : 0 < cs.length
  le : cs.length ≤ 12
  ch : ∀ c ∈ cs, 1 ≤ c.2.1 ∧ c.2.1 ≤ 20 ∧ 0 ≤ c.2.2.1 ∧ c.2.2.1 ≤ 99
  wa : ∀ r ∈ ws, ∀ i, r.2.2 = some i → 0 ≤ i ∧ i ≤ 99
  wd : ∀ c ∈ cs, Nm c.1
  nd : (cs.map (·.1)).Nodup
  wp : (ws.map fun r => (r.1, r.2.1)).Nodup
  wn : ∀ r ∈ ws, r.1 ≠ r.2.1
/-- what stands while a palette is made: the names at N, colours at C, washes at W -/
structure PMc (K : PySem.W.Frag) (H0 : Hp) (b C W N : Addr) (ns : List Str) (n : Nat) (xs us : List V) (cs : List Col) (ws : List Wsh) (H : Hp) : Prop where
  st : Bp H b n
  sm : Sm [b] H0 H
  hN : off H [C, W, b] N = some (.lst (ns.map V.str))
  hC : H C = some (.lst xs)
  dC : DpAll K (off H [C, W, b]) xs (cs.map colD)
  hW : H W = some (.lst us)
  dW : DpAll K (off H [C, W, b]) us (ws.map washD)
structure PAc (H0 : Hp) (b C W : Addr) : Prop where
  Cb : C ≠ b
  Wb : W ≠ b
  CW : C ≠ W
  nC : H0 C = none
  nW : H0 W = none
section
variable {K : PySem.W.Frag} {H0 H H' : Hp} {b C W N p : Addr} {ns : List Str} {n m : Nat} {xs us : List V} {cs : List Col} {ws : List Wsh} {o : HO}
theorem PMc.live (P : PMc K H0 b C W N ns n xs us cs ws H) : Live [C, W, b] H := ((Live.pw P.st).cons P.hW).cons P.hC
theorem PMc.drawn (P : PMc K H0 b C W N ns n xs us cs ws H) (a : PAc H0 b C W) (st : Bp H' b m) (s : Sm [b] H H') : PMc K H0 b C W N ns m xs us cs ws H' :=
  have s2 : Sm [C, W, b] H H' := sm_one (by simp) s
  ⟨st, P.sm.trans s, s2 _ _ P.hN, sm1_at s a.Cb P.hC, dpAll_same s2 P.dC, sm1_at s a.Wb P.hW, dpAll_same s2 P.dW⟩
theorem PMc.same (P : PMc K H0 b C W N ns n xs us cs ws H) (s : Same H H') : PMc K H0 b C W N ns n xs us cs ws H' :=
  have s2 : Sm [C, W, b] H H' := sm_of s
  ⟨P.st.same s, P.sm.trans (sm_of s), s2 _ _ P.hN, s _ _ P.hC, dpAll_same s2 P.dC, s _ _ P.hW, dpAll_same s2 P.dW⟩
theorem PMc.put (P : PMc K H0 b C W N ns n xs us cs ws H) (h : H p = none) : PMc K H0 b C W N ns n xs us cs ws (upd H p o) := P.same (same_upd h)
theorem PMc.mono (P : PMc K H0 b C W N ns n xs us cs ws H) (h : n ≤ m) : PMc K H0 b C W N ns m xs us cs ws H := ⟨P.st.mono h, P.sm, P.hN, P.hC, P.dC, P.hW, P.dW⟩
theorem PMc.colour (P : PMc K H0 b C W N ns n xs us cs ws H) (a : PAc H0 b C W) {v : V} {r : Col} (hv : Dp K (off H [C, W, b]) v (colD r)) : PMc K H0 b C W N ns n (xs ++ [v]) us (cs ++ [r]) ws (upd H C (.lst (xs ++ [v]))) :=
  have s2 : Sm [C, W, b] H (upd H C (.lst (xs ++ [v]))) := sm_wr (by simp)
  ⟨P.st.wr a.Cb, smp P.sm a.nC, s2 _ _ P.hN, upd_same, by rw [List.map_append]; exact dpAll_same s2 (dpAll_app P.dC (.cons hv .nil)), by rw [upd_ne a.CW.symm]; exact P.hW, dpAll_same s2 P.dW⟩
theorem PMc.wash (P : PMc K H0 b C W N ns n xs us cs ws H) (a : PAc H0 b C W) {v : V} {r : Wsh} (hv : Dp K (off H [C, W, b]) v (washD r)) : PMc K H0 b C W N ns n xs (us ++ [v]) cs (ws ++ [r]) (upd H W (.lst (us ++ [v]))) :=
  have s2 : Sm [C, W, b] H (upd H W (.lst (us ++ [v]))) := sm_wr (by simp)
  ⟨P.st.wr a.Wb, smp P.sm a.nW, s2 _ _ P.hN, by rw [upd_ne a.CW]; exact P.hC, dpAll_same s2 P.dC, upd_same, by rw [List.map_append]; exact dpAll_same s2 (dpAll_app P.dW (.cons hv .nil))⟩
end
theorem rows_cols (cs : List Col) : RowsCmp (cs.map colD) := by
  refine ⟨fun d hd => ?_, fun x r x2 r2 h1 h2 => ?_, fun xs ys h1 h2 => ?_⟩
  · obtain ⟨c, _, rfl⟩ := List.mem_map.mp hd
    exact ⟨_, _, rfl⟩
  · obtain ⟨c, _, e⟩ := List.mem_map.mp h1
    obtain ⟨c2, _, e2⟩ := List.mem_map.mp h2
    obtain ⟨rfl, _⟩ := List.cons.inj (PyData.tuple.inj e)
    obtain ⟨rfl, _⟩ := List.cons.inj (PyData.tuple.inj e2)
    rfl
  · obtain ⟨c, _, e⟩ := List.mem_map.mp h1
    obtain ⟨c2, _, e2⟩ := List.mem_map.mp h2
    rw [← PyData.tuple.inj e, ← PyData.tuple.inj e2]
    have a1 : ∀ x y : Str, PySem.W.alike (.str x) (.str y) = true := fun _ _ => rfl
    have a2 : ∀ x y : Int, PySem.W.alike (.int x) (.int y) = true := fun _ _ => rfl
    simp only [okCmp, a1, a2, Bool.true_and, Bool.or_true, Bool.and_true]
theorem depth_col (c : Col) : (colD c).depth ≤ 60 := by
  show PyData.depthAll _ + 1 ≤ 60
  simp only [PyData.depthAll, PyData.depth]
  omega
theorem depth_wash (r : Wsh) : (washD r).depth ≤ 60 := by
  show PyData.depthAll _ + 1 ≤ 60
  cases h : r.2.2 <;> (simp only [PyData.depthAll, PyData.depth, optD]; omega)
theorem alike_opt (o : Option Int) : PySem.W.alike (optD o) (optD o) = true := by cases o <;> rfl
theorem pair_eq {ws : List Wsh} (h : (ws.map fun r => (r.1, r.2.1)).Nodup) {r r2 : Wsh} (h1 : r ∈ ws) (h2 : r2 ∈ ws) (e1 : r.1 = r2.1) (e2 : r.2.1 = r2.2.1) : r = r2 := by
  obtain ⟨i, hi, rfl⟩ := List.getElem_of_mem h1
  obtain ⟨j, hj, rfl⟩ := List.getElem_of_mem h2
  have := (List.getElem_inj (i := i) (j := j) (h₀ := by rw [List.length_map]; exact hi) (h₁ := by rw [List.length_map]; exact hj) h).mp (by rw [List.getElem_map, List.getElem_map]; exact Prod.ext e1 e2)
  subst this; rfl
theorem rows_wash {ws : List Wsh} (h : (ws.map fun r => (r.1, r.2.1)).Nodup) : RowsCmp (ws.map washD) := by
  refine ⟨fun d hd => ?_, fun x r x2 r2 h1 h2 => ?_, fun xs ys h1 h2 => ?_⟩
  · obtain ⟨c, _, rfl⟩ := List.mem_map.mp hd
    exact ⟨_, _, rfl⟩
  · obtain ⟨c, _, e⟩ := List.mem_map.mp h1
    obtain ⟨c2, _, e2⟩ := List.mem_map.mp h2
    obtain ⟨rfl, _⟩ := List.cons.inj (PyData.tuple.inj e)
    obtain ⟨rfl, _⟩ := List.cons.inj (PyData.tuple.inj e2)
    rfl
  · obtain ⟨c, m1, e⟩ := List.mem_map.mp h1
    obtain ⟨c2, m2, e2⟩ := List.mem_map.mp h2
    rw [← PyData.tuple.inj e, ← PyData.tuple.inj e2]
    have a1 : ∀ x y : Str, PySem.W.alike (.str x) (.str y) = true := fun _ _ => rfl
    simp only [okCmp, a1, Bool.true_and, Bool.or_true, Bool.and_true]
    cases e1 : PyData.eqv (.str c.1) (.str c2.1) with
    | false => rfl
    | true =>
      cases e3 : PyData.eqv (.str c.2.1) (.str c2.2.1) with
      | false => rfl
      | true =>
        have x1 : c.1 = c2.1 := by simpa [PyData.eqv] using e1
        have x2 : c.2.1 = c2.2.1 := by simpa [PyData.eqv] using e3
        rw [pair_eq h m1 m2 x1 x2, alike_opt]; rfl
section
variable {K : PySem.W.Frag}
theorem go_offB {H : Hp} {b : Addr} {n : Nat} (B : Bp H b n) (a : Addr) (us : List V) (h : SqT K H a us) : SqT K (off H [b]) a us := by
  obtain ⟨x, y, z, h1, _⟩ := B
  have go : ∀ o, (H a = some (.tup us) ∨ H a = some (.frz o (.tup us))) → a ∉ [b] := fun o e z => by
    rw [List.mem_singleton] at z; subst z; rw [h1] at e; rcases e with e | e <;> cases e
  rcases h with (h | ⟨o, h⟩) | h
  · exact .inl (.inl (by rw [off_out (go ⟨.none, none, .fields #[], #[]⟩ (.inl h))]; exact h))
  · exact .inl (.inr ⟨o, by rw [off_out (go o (.inr h))]; exact h⟩)
  · exact .inr h
theorem dp_offB {H : Hp} {b : Addr} {n : Nat} {v : V} {e : PyData} (B : Bp H b n) (h : noLAll.noL e) (p : Dp K H v e) : Dp K (off H [b]) v e := dp_go (go_offB B) h p
theorem dpAll_offB {H : Hp} {b : Addr} {n : Nat} {vs : List V} {es : List PyData} (B : Bp H b n) (h : noLAll es) (p : DpAll K H vs es) : DpAll K (off H [b]) vs es := dpAll_go (go_offB B) h p
end
theorem div_mod_inj {m i j : Nat} (h1 : i / m = j / m) (h2 : i % m = j % m) : i = j := by
  have a := Nat.div_add_mod i m
  have b := Nat.div_add_mod j m
  rw [h1, h2] at a
  omega
end Pot

namespace Pot
open PySem PySem.Spec PyProof.Rows L2
/-! ### a list that is filled while there is drawn, things beside it that stay -/
structure Acc (K : PySem.W.Frag) (H0 : Hp) (b R : Addr) (fs : List (V × PyData)) (n : Nat) (us : List V) (ds : List PyData) (H : Hp) : Prop where
  st : Bp H b n
  sm : Sm [b] H0 H
  Rb : R ≠ b
  nR : H0 R = none
  fr : ∀ p ∈ fs, Dp K (off H [R, b]) p.1 p.2
  hR : H R = some (.lst us)
  dR : DpAll K (off H [R, b]) us ds
section
variable {K : PySem.W.Frag} {H0 H H' : Hp} {b R p : Addr} {fs : List (V × PyData)} {n m : Nat} {us : List V} {ds : List PyData} {o : HO}
theorem Acc.live (M : Acc K H0 b R fs n us ds H) : Live [R, b] H := (Live.pw M.st).cons M.hR
theorem Acc.drawn (M : Acc K H0 b R fs n us ds H) (st : Bp H' b m) (s : Sm [b] H H') : Acc K H0 b R fs m us ds H' :=
  have s2 : Sm [R, b] H H' := sm_one (by simp) s
  ⟨st, M.sm.trans s, M.Rb, M.nR, fun q hq => dp_same s2 (M.fr q hq), sm1_at s M.Rb M.hR, dpAll_same s2 M.dR⟩
theorem Acc.same (M : Acc K H0 b R fs n us ds H) (s : Same H H') : Acc K H0 b R fs n us ds H' :=
  have s2 : Sm [R, b] H H' := sm_of s
  ⟨M.st.same s, M.sm.trans (sm_of s), M.Rb, M.nR, fun q hq => dp_same s2 (M.fr q hq), s _ _ M.hR, dpAll_same s2 M.dR⟩
theorem Acc.put (M : Acc K H0 b R fs n us ds H) (h : H p = none) : Acc K H0 b R fs n us ds (upd H p o) := M.same (same_upd h)
theorem Acc.mono (M : Acc K H0 b R fs n us ds H) (h : n ≤ m) : Acc K H0 b R fs m us ds H := ⟨M.st.mono h, M.sm, M.Rb, M.nR, M.fr, M.hR, M.dR⟩
theorem Acc.app (M : Acc K H0 b R fs n us ds H) {v : V} {d : PyData} (hv : Dp K (off H [R, b]) v d) : Acc K H0 b R fs n (us ++ [v]) (ds ++ [d]) (upd H R (.lst (us ++ [v]))) :=
  have s2 : Sm [R, b] H (upd H R (.lst (us ++ [v]))) := sm_wr (by simp)
  ⟨M.st.wr M.Rb, smp M.sm M.nR, M.Rb, M.nR, fun q hq => dp_same s2 (M.fr q hq), upd_same, dpAll_same s2 (dpAll_app M.dR (.cons hv .nil))⟩
/-- the list is new -/
theorem Acc.start (B : Bp H b n) (s : Sm [b] H0 H) (h : H R = none) (fr : ∀ p ∈ fs, Dp K (off H [b]) p.1 p.2) : Acc K H0 b R fs n [] [] (upd H R (.lst [])) :=
  ⟨B.put h, s.trans (sm_put h), B.ne h, sm_free s B.bx h, fun q hq => by
    have e : off (upd H R (.lst [])) [R, b] = off H [b] := off_fresh h
    rw [e]; exact fr q hq, upd_same, .nil⟩
theorem Acc.new (M : Acc K H0 b R fs n us ds H) (h : H p = none) : off (upd H p o) [R, b] p = some o := off_new M.live h
/-- the list done: a thing among the others -/
theorem Acc.done (M : Acc K H0 b R fs n us ds H) : Dp K (off H [b]) (.ref R) (.list ds) :=
  .lst (SqL.of (by rw [off_out (by simpa using M.Rb)]; exact M.hR)) (dpAll_same (off_mono (by simp)) M.dR)
theorem Acc.kept (M : Acc K H0 b R fs n us ds H) {q : V × PyData} (h : q ∈ fs) : Dp K (off H [b]) q.1 q.2 := dp_same (off_mono (by simp)) (M.fr q h)
end
theorem e106 : (10 : Int) ^ (6 : Int).toNat = 1000000 := by decide
end Pot

namespace Pot
open PySem PySem.Spec PyProof.Rows L2
section
variable {K : PySem.W.Frag}
/-! ### bounds of drawn data, its texts too -/
def txAll (n : Nat) : List PyData → Prop
  | [] => True
  | x :: xs => tx n x ∧ txAll n xs
where tx (n : Nat) : PyData → Prop
  | .str x => x.length ≤ n ∧ ∀ c ∈ x.cps.toList, c < 128
  | .list xs => txAll n xs
  | .tuple xs => txAll n xs
  | _ => True
abbrev tx (n : Nat) (d : PyData) : Prop := txAll.tx n d
theorem txAll_iff {n : Nat} : ∀ {ds : List PyData}, txAll n ds ↔ ∀ d ∈ ds, tx n d
  | [] => ⟨fun _ _ h => (List.not_mem_nil h).elim, fun _ => trivial⟩
  | x :: xs => ⟨fun h d hd => (List.mem_cons.mp hd).elim (fun e => by rw [e]; exact h.1) fun e => txAll_iff.mp h.2 d e, fun h => ⟨h x List.mem_cons_self, txAll_iff.mpr fun d hd => h d (List.mem_cons_of_mem _ hd)⟩⟩
mutual
theorem tx_mono {n k : Nat} (h : n ≤ k) : ∀ d : PyData, tx n d → tx k d
  | .none, _ => trivial
  | .bool _, _ => trivial
  | .int _, _ => trivial
  | .str x, g => ⟨Nat.le_trans g.1 h, g.2⟩
  | .list xs, g => txAll_mono h xs g
  | .tuple xs, g => txAll_mono h xs g
  | .dict _, _ => trivial
theorem txAll_mono {n k : Nat} (h : n ≤ k) : ∀ ds : List PyData, txAll n ds → txAll k ds
  | [], _ => trivial
  | x :: xs, g => ⟨tx_mono h x g.1, txAll_mono h xs g.2⟩
end
structure Bd (n m C D W : Nat) (d : PyData) : Prop where
  t : Th m C D W d
  x : tx n d
structure Bds (n m C D W : Nat) (ds : List PyData) : Prop where
  t : Ths m C D W ds
  x : ∀ d ∈ ds, tx n d
section
variable {n m C D W n' m' C' D' W' : Nat} {d x : PyData} {ds es xs ys : List PyData}
theorem Bd.mono (h : Bd n m C D W d) (a : n ≤ n') (b : m ≤ m') (c : C ≤ C') (e : D ≤ D') (f : W ≤ W') : Bd n' m' C' D' W' d := ⟨h.t.mono b c e f, tx_mono a d h.x⟩
theorem Bds.mono (h : Bds n m C D W ds) (a : n ≤ n') (b : m ≤ m') (c : C ≤ C') (e : D ≤ D') (f : W ≤ W') : Bds n' m' C' D' W' ds := ⟨h.t.mono b c e f, fun d hd => tx_mono a d (h.x d hd)⟩
theorem Bds.nil : Bds n m 0 D W [] := ⟨Ths.nil, fun _ h => (List.not_mem_nil h).elim⟩
theorem Bds.app (h : Bds n m C D W xs) (k : Bds n m C' D W ys) : Bds n m (C + C') D W (xs ++ ys) := ⟨h.t.app k.t, fun d hd => (List.mem_append.mp hd).elim (h.x d) (k.x d)⟩
theorem Bds.one (h : Bd n m C D W x) : Bds n m (C + 2) D W [x] := ⟨Ths.one h.t, fun d hd => by rw [List.mem_singleton.mp hd]; exact h.x⟩
theorem Bds.list (h : Bds n m C D W ds) (l : ds.length ≤ W) : Bd n m (C + 3) (D + 1) W (.list ds) := ⟨h.t.list l, txAll_iff.mpr h.x⟩
theorem Bds.tuple (h : Bds n m C D W ds) (l : ds.length ≤ W) : Bd n m (C + 3) (D + 1) W (.tuple ds) := ⟨h.t.tuple l, txAll_iff.mpr h.x⟩
theorem Bd.parts (h : Bd n m C D W d) (e : d = .list ds ∨ d = .tuple ds) : Bds n m (C - 3) (D - 1) W ds ∧ ds.length ≤ W ∧ 3 ≤ C ∧ 1 ≤ D := by
  obtain ⟨a, b⟩ := h.t.parts e
  refine ⟨⟨a, ?_⟩, b⟩
  rcases e with rfl | rfl
  · exact txAll_iff.mp h.x
  · exact txAll_iff.mp h.x
theorem Bds.take (h : Bds n m C D W ds) (k : Nat) : Bds n m C D W (ds.take k) := ⟨h.t.take k, fun d hd => h.x d (List.mem_of_mem_take hd)⟩
theorem Bds.drop (h : Bds n m C D W ds) (k : Nat) : Bds n m C D W (ds.drop k) := ⟨h.t.drop k, fun d hd => h.x d (List.mem_of_mem_drop hd)⟩
theorem Bds.rev (h : Bds n m C D W ds) : Bds n m C D W ds.reverse := ⟨h.t.rev, fun d hd => h.x d (List.mem_reverse.mp hd)⟩
theorem Bds.set {i : Nat} (h : Bds n m C D W ds) (k : Bd n m C' D W x) : Bds n m (C + C' + 2) D W (ds.set i x) := ⟨h.t.set k.t, fun d hd => (List.mem_or_eq_of_mem_set hd).elim (h.x d) fun e => by rw [e]; exact k.x⟩
theorem Bds.mem (h : Bds n m C D W ds) (e : d ∈ ds) : Bd n m C D W d := ⟨h.t.mem e, h.x d e⟩
theorem bd_int {i : Int} (h : i.natAbs ≤ m) : Bd n m 1921 0 0 (.int i) := ⟨⟨h, Nat.le_refl _, Nat.le_refl _, Nat.le_refl _⟩, trivial⟩
theorem bd_bool (b : Bool) : Bd n m 5 0 0 (.bool b) := ⟨⟨trivial, Nat.le_refl _, Nat.le_refl _, Nat.le_refl _⟩, trivial⟩
theorem bd_none : Bd n m 4 0 0 .none := ⟨⟨trivial, Nat.le_refl _, Nat.le_refl _, Nat.le_refl _⟩, trivial⟩
theorem bd_str {z : Str} (h : z.length ≤ n) (h2 : n ≤ 2000) (c : ∀ x ∈ z.cps.toList, x < 128) : Bd n m (10 * n + 2) 0 0 (.str z) := ⟨⟨⟨Nat.le_trans h h2, fun x hx => Nat.lt_trans (c x hx) (by decide)⟩, by show 10 * z.length + 2 ≤ _; omega, Nat.le_refl _, Nat.le_refl _⟩, h, c⟩
end
theorem text_small {i : Int} (h : i.natAbs < 10 ^ 11) : (Str.ofString (toString i)).length ≤ 12 := by
  rw [PySem.ofString_length]
  exact int_text_length_le10 (k := 11) (by decide) h
theorem text_ascii (i : Int) : ∀ c ∈ (Str.ofString (toString i)).cps.toList, c < 128 := by
  intro c hc
  refine Decidable.byContradiction fun h => ?_
  exact PyProof.Rows.int_text_free' c ⟨by omega, by omega⟩ i hc
theorem cut_small (z : Str) (lo hi : Option Int) : (cutS z lo hi).length ≤ z.length := by
  have := cut_len z lo hi
  have h1 : HT.sIx z.length z.length hi ≤ z.length := HT.sIx_le _ _ (Nat.le_refl _) _
  omega
theorem cut_dp {H : Hp} {xs : List V} {ds : List PyData} {n m C D W : Nat} (da : DpAll K H xs ds) (b : Bds n m C D W ds) (lo hi : Option Int) : ∃ ys es, cutV xs lo hi = ys ∧ DpAll K H ys es ∧ Bds n m C D W es ∧ es.length ≤ ds.length ∧ ys.length = es.length := by
  refine ⟨_, (ds.drop (HT.sIx xs.length 0 lo)).take (HT.sIx xs.length xs.length hi - HT.sIx xs.length 0 lo), rfl, ?_, (b.drop _).take _, ?_, ?_⟩
  · exact dpAll_take _ (dpAll_drop _ da)
  · rw [List.length_take, List.length_drop]; omega
  · exact dpAll_len (dpAll_take _ (dpAll_drop _ da))
theorem cut_one (xs : List V) (a : Nat) : (cutV xs (some (a : Int)) (some ((a : Int) + 1))).length ≤ 1 := by
  unfold cutV
  rw [List.length_take, List.length_drop]
  rw [show ((a : Int) + 1) = ((a + 1 : Nat) : Int) by omega, HT.sIx_nat, HT.sIx_nat]
  omega
theorem str_mem_app {a b : Str} {x : Nat} (h : x ∈ (a ++ b).cps.toList) : x ∈ a.cps.toList ∨ x ∈ b.cps.toList := by
  have e : (a ++ b).cps.toList = a.cps.toList ++ b.cps.toList := Array.toList_append
  rw [e] at h
  exact List.mem_append.mp h
abbrev SqA (K : PySem.W.Frag) (H : Hp) (a : Addr) (xs : List V) : Prop := SqL K H a xs ∨ SqT K H a xs
theorem sq_same {H H' : Hp} {a : Addr} {xs : List V} (s : Same H H') (h : SqA K H a xs) : SqA K H' a xs := h.imp s.seq (same_tup s)
theorem sqa_off {H : Hp} {S : List Addr} {a : Addr} {xs : List V} (h : SqA K (off H S) a xs) : SqA K H a xs := sq_same off_sub h
theorem sqa_len {H : Hp} {a : Addr} {xs : List V} (h : SqA K H a xs) : LenV K (.ref a) H xs.length := h.elim (fun h => .inl ⟨_, h, rfl⟩) (fun h => .inr ⟨_, h, rfl⟩)
end
theorem upper_len {z : Str} (h : ∀ c ∈ z.cps.toList, c < 128) : (Txt.upper z).length = z.length := by
  rw [PyProof.Rows.upper_ascii h]
  show (z.cps.map _).size = z.cps.size
  rw [Array.size_map]
theorem upper_small {z : Str} (h : ∀ c ∈ z.cps.toList, c < 128) : ∀ c ∈ (Txt.upper z).cps.toList, c < 128 := by
  rw [PyProof.Rows.upper_ascii h]
  intro c hc
  have hc : c ∈ z.cps.toList.map PyProof.Rows.up1 := by simpa using hc
  obtain ⟨d, hd, rfl⟩ := List.mem_map.mp hc
  have := h d hd
  unfold PyProof.Rows.up1
  split <;> omega
theorem log_smallW {i : Int} (h : i.natAbs ≤ 10 ^ 12) : i.natAbs.log2 < 1920 := by
  by_cases z : i.natAbs = 0
  · rw [z]; decide
  · have := (Nat.log2_lt z).mpr (show i.natAbs < 2 ^ 40 from Nat.lt_of_le_of_lt h (by decide))
    omega
mutual
theorem gd_fineW {m : Nat} (h : m ≤ 10 ^ 12) : ∀ d : PyData, gd m d → fineAll.fine d
  | .none, _ => trivial
  | .bool _, _ => trivial
  | .int i, g => log_smallW (Nat.le_trans g h)
  | .str _, g => fun c hc => Nat.lt_trans (g.2 c hc) (by decide)
  | .list xs, g => gdAll_fineW h xs g
  | .tuple xs, g => gdAll_fineW h xs g
  | .dict _, g => g.elim
theorem gdAll_fineW {m : Nat} (h : m ≤ 10 ^ 12) : ∀ ds : List PyData, gdAll m ds → fineAll ds
  | [], _ => trivial
  | x :: xs, g => ⟨gd_fineW h x g.1, gdAll_fineW h xs g.2⟩
end
theorem Nm.ascii {z : Str} (h : Nm z) : ∀ c ∈ z.cps.toList, c < 128 := fun c hc => by have := (h.1.2 c hc).2; omega
theorem ascii_of {s : String} (h : (Str.ofString s).cps.toList.all (fun c => decide (c < 128)) = true) : ∀ c ∈ (Str.ofString s).cps.toList, c < 128 := fun c hc => of_decide_eq_true (List.all_eq_true.mp h c hc)
theorem ascii_app {a b : Str} (h1 : ∀ x ∈ a.cps.toList, x < 128) (h2 : ∀ x ∈ b.cps.toList, x < 128) : ∀ x ∈ (a ++ b).cps.toList, x < 128 := fun x hx => (str_mem_app hx).elim (h1 x) (h2 x)
theorem ascii_cut {z : Str} (h : ∀ x ∈ z.cps.toList, x < 128) (lo hi : Option Int) : ∀ x ∈ (cutS z lo hi).cps.toList, x < 128 := fun x hx => h x (cut_mem hx)
end Pot

namespace Pot
open PySem PySem.Spec PyProof.Rows L2
/-! ### lists and tuples alike: slices, sums, places -/
section
variable {X : Cx} {K : PySem.W.Frag}
def rSlS' (K : PySem.W.Frag) : V → Option Int → Option Int → Hp → VK → Prop := fun x lo hi H Q => rSlL K x lo hi H Q ∨ rSlA K x lo hi H Q
theorem kl_any (h : X.K = K := by rfl) : SlR X (rSlS' K) := h ▸ SlR.or sl_list sl_tupA
def rCatS' (K : PySem.W.Frag) : R2 := fun x y H Q => rCat x y H Q ∨ rCatA K x y H Q
theorem ko_catS (h : X.K = K := by rfl) : OpR X (binaryOp .Add) (rCatS' K) := h ▸ OpR.or op_cat op_catA
def rIxS' (K : PySem.W.Frag) : R2 := fun x y H Q => rIxL K x y H Q ∨ rIxT K x y H Q
theorem kx_any (h : X.K = K := by rfl) : IxR X (rIxS' K) := h ▸ IxR.or ix_list ix_tup
end
/-- a list's or a tuple's data -/
def seqD (t : Bool) (ds : List PyData) : PyData := if t = true then .tuple ds else .list ds
theorem seqD_t (ds : List PyData) : seqD true ds = .tuple ds := rfl
theorem seqD_l (ds : List PyData) : seqD false ds = .list ds := rfl
theorem seqD_or (t : Bool) (ds : List PyData) : seqD t ds = .list ds ∨ seqD t ds = .tuple ds := by cases t; exact .inl rfl; exact .inr rfl
theorem seqD_tup (t : Bool) (ds : List PyData) : isTupD (seqD t ds) = t := by cases t <;> rfl
theorem seqD_seq (t : Bool) (ds : List PyData) : (isListD (seqD t ds) || isTupD (seqD t ds)) = true := by cases t <;> rfl
def cutL (ds : List PyData) (lo hi : Option Int) : List PyData := (ds.drop (HT.sIx ds.length 0 lo)).take (HT.sIx ds.length ds.length hi - HT.sIx ds.length 0 lo)
theorem cutL_le (ds : List PyData) (lo hi : Option Int) : (cutL ds lo hi).length ≤ ds.length := by
  unfold cutL
  rw [List.length_take, List.length_drop]; omega
theorem cutL_head (ds : List PyData) (a : Nat) : cutL ds none (some (a : Int)) = ds.take a := by
  unfold cutL
  rw [HT.sIx_nat]
  show (ds.drop 0).take (min a ds.length - 0) = _
  rw [List.drop_zero, Nat.sub_zero]
  rcases Nat.le_total a ds.length with h | h
  · rw [Nat.min_eq_left h]
  · rw [Nat.min_eq_right h, List.take_length, List.take_of_length_le h]
theorem cutL_tail (ds : List PyData) (a : Nat) : cutL ds (some (a : Int)) none = ds.drop a := by
  unfold cutL
  rw [HT.sIx_nat]
  show (ds.drop (min a ds.length)).take (ds.length - min a ds.length) = _
  rcases Nat.le_total a ds.length with h | h
  · rw [Nat.min_eq_left h, List.take_of_length_le (by rw [List.length_drop]; exact Nat.le_refl _)]
  · rw [Nat.min_eq_right h, List.drop_length, List.drop_of_length_le h, List.take_nil]
/-- a value that is a list of its own or a tuple -/
def SeqV (K : PySem.W.Frag) (H : Hp) (t : Bool) (y : V) (ds : List PyData) : Prop := ∃ a xs, y = .ref a ∧ DpAll K H xs ds ∧ (if t = true then SqT K H a xs else H a = some (.lst xs))
section
variable {K : PySem.W.Frag} {H H' : Hp} {S : List Addr} {t : Bool} {x y : V} {ds es : List PyData} {lo hi : Option Int} {Q : VK}
theorem SeqV.dp (h : SeqV K H t y ds) : Dp K H y (seqD t ds) := by
  obtain ⟨a, xs, rfl, da, hs⟩ := h
  cases t with
  | true => exact .tup hs da
  | false => exact .lst (SqL.of hs) da
theorem SeqV.same (s : Same H H') (h : SeqV K H t y ds) : SeqV K H' t y ds := by
  obtain ⟨a, xs, rfl, da, hs⟩ := h
  refine ⟨a, xs, rfl, dpAll_same s da, ?_⟩
  cases t with
  | true => exact same_tup s hs
  | false => exact s _ _ hs
theorem sl_seq (lv : Live S H) (d : Dp K (off H S) x (seqD t ds)) (q : ∀ H' y, Same H H' → SeqV K (off H' S) t y (cutL ds lo hi) → Q y H') : rSlS' K x lo hi H Q := by
  cases t with
  | true =>
    obtain ⟨a, xs, rfl, hs, da⟩ := dp_tup d
    have lx := dpAll_len da
    refine .inr ⟨a, xs, rfl, sqt_off hs, fun h => ?_, fun h p np => ?_⟩
    · refine q _ _ (Same.refl _) ⟨a, xs, rfl, ?_, hs⟩
      have e : cutL ds lo hi = ds := by
        unfold cutL
        rw [lx] at h
        rw [h.1, h.2, List.drop_zero, Nat.sub_zero, List.take_length]
      rw [e]; exact da
    · refine q _ _ (same_upd np) ⟨p, _, rfl, ?_, .inl (.inl (off_new lv np))⟩
      unfold cutL
      rw [← lx]
      exact dpAll_same (sm_put np) (dpAll_take _ (dpAll_drop _ da))
  | false =>
    obtain ⟨a, xs, rfl, hs, da⟩ := dp_lst d
    have lx := dpAll_len da
    refine .inl ⟨a, xs, rfl, sq_off hs, fun p np => ?_⟩
    refine q _ _ (same_upd np) ⟨p, _, rfl, ?_, off_new lv np⟩
    unfold cutL
    rw [← lx]
    exact dpAll_same (sm_put np) (dpAll_take _ (dpAll_drop _ da))
theorem cat_seq (lv : Live S H) (d : SeqV K (off H S) t x ds) (e : SeqV K (off H S) t y es) (l : ds.length + es.length ≤ sizeLine) (q : ∀ H' z, Same H H' → SeqV K (off H' S) t z (ds ++ es) → Q z H') : rCatS' K x y H Q := by
  obtain ⟨a, xs, rfl, da, hs⟩ := d
  obtain ⟨b, ys, rfl, db, ht⟩ := e
  have lx := dpAll_len da
  have ly := dpAll_len db
  cases t with
  | true =>
    have hs : SqT K (off H S) a xs := hs
    have ht : SqT K (off H S) b ys := ht
    refine .inr ⟨a, b, xs, ys, rfl, rfl, sqt_off hs, sqt_off ht, by rw [lx, ly]; exact l, fun z => ?_, fun z z2 => ?_, fun z z2 p np => ?_⟩
    · refine q _ _ (Same.refl _) ⟨b, ys, rfl, ?_, ht⟩
      have : ds = [] := List.length_eq_zero_iff.mp (by rw [← lx, z]; rfl)
      rw [this]; exact db
    · refine q _ _ (Same.refl _) ⟨a, xs, rfl, ?_, hs⟩
      have : es = [] := List.length_eq_zero_iff.mp (by rw [← ly, z2]; rfl)
      rw [this, List.append_nil]; exact da
    · exact q _ _ (same_upd np) ⟨p, _, rfl, dpAll_same (sm_put np) (dpAll_app' da db), .inl (.inl (off_new lv np))⟩
  | false =>
    have hs : off H S a = some (.lst xs) := hs
    have ht : off H S b = some (.lst ys) := ht
    exact .inl ⟨a, b, xs, ys, rfl, rfl, at_off hs, at_off ht, by rw [lx, ly]; exact l, fun p np => q _ _ (same_upd np) ⟨p, _, rfl, dpAll_same (sm_put np) (dpAll_app' da db), off_new lv np⟩⟩
theorem ix_seqV {i : Nat} {d : PyData} (h : Dp K (off H S) x (seqD t ds)) (g : ds[i]? = some d) (q : ∀ y, Dp K (off H S) y d → Q y H) : rIxS' K x (.int (i : Nat)) H Q := by
  cases t with
  | true =>
    obtain ⟨a, xs, rfl, hs, da⟩ := dp_tup h
    have lx := dpAll_len da
    have hi : i < xs.length := by rw [lx]; exact (List.getElem?_eq_some_iff.mp g).1
    obtain ⟨d2, g2, dp⟩ := dpAll_at da (List.getElem?_eq_getElem hi)
    rw [g] at g2
    cases g2
    exact .inr ⟨a, xs, _, _, rfl, rfl, sqt_off hs, atI_nat (List.getElem?_eq_getElem hi), q _ dp⟩
  | false =>
    obtain ⟨a, xs, rfl, hs, da⟩ := dp_lst h
    have lx := dpAll_len da
    have hi : i < xs.length := by rw [lx]; exact (List.getElem?_eq_some_iff.mp g).1
    obtain ⟨d2, g2, dp⟩ := dpAll_at da (List.getElem?_eq_getElem hi)
    rw [g] at g2
    cases g2
    exact .inl ⟨a, xs, _, _, rfl, rfl, sq_off hs, atI_nat (List.getElem?_eq_getElem hi), q _ dp⟩
theorem len_seq (h : Dp K (off H S) x (seqD t ds)) : LenV K x H ds.length := by
  cases t with
  | true =>
    obtain ⟨a, xs, rfl, hs, da⟩ := dp_tup h
    rw [← dpAll_len da]
    exact .inr ⟨_, sqt_off hs, rfl⟩
  | false =>
    obtain ⟨a, xs, rfl, hs, da⟩ := dp_lst h
    rw [← dpAll_len da]
    exact .inl ⟨_, sq_off hs, rfl⟩
end
section
variable {n m C D W : Nat} {ds : List PyData}
theorem Bds.cut (h : Bds n m C D W ds) (lo hi : Option Int) : Bds n m C D W (cutL ds lo hi) := (h.drop _).take _
theorem Bd.seq {t : Bool} (h : Bd n m C D W (seqD t ds)) : Bds n m C (D - 1) W ds ∧ ds.length ≤ W := by
  obtain ⟨a, b, c, d⟩ := h.parts (seqD_or t ds)
  exact ⟨a.mono (Nat.le_refl _) (Nat.le_refl _) (Nat.sub_le _ _) (Nat.le_refl _) (Nat.le_refl _), b⟩
theorem Bds.seq {t : Bool} (h : Bds n m C D W ds) (l : ds.length ≤ W) : Bd n m (C + 3) (D + 1) W (seqD t ds) := by
  cases t
  · exact h.list l
  · exact h.tuple l
end
end Pot

namespace Pot
open PySem PySem.Spec PyProof.Rows L2
/-! ### the least and the greatest of a list of numbers -/
section
variable {X : Cx} {K : PySem.W.Frag}
theorem kc_min (hc : X.calm = true := by rfl) (h : X.K = K := by rfl) : CallR X (.builtin "min") (rMin K) := h ▸ cr_min hc
theorem kc_max (hc : X.calm = true := by rfl) (h : X.K = K := by rfl) : CallR X (.builtin "max") (rMax K) := h ▸ cr_max hc
end
end Pot

set_option maxHeartbeats 2000000
namespace RLam
open PySem PySem.Spec PyProof.Rows L2 PySem.Calls
/-! ### a lambda with one value by place, its answer the first part of a row of a captured list, turned -/
section
variable {prog : Program} {w : World} {B : Around} {s : Shared}
theorem ld_captured {E : Value → Shared → Prop} {env : Env} {o : Str} {co : Addr} {v : Value} {Q : Value → Shared → Prop} {p : Pos} (hk : env.scope.kind = .function) (hl : env.kindOf o = some .free) (hc : env.cells.lookup o = some co) (hv : s.heap.IsCell co (some v))
    (h : Q v s) (hd : (o == ("__debug__" : Str)) = false) (hcd : (o == ("__classdict__" : Str)) = false) : wpAny (model prog w) B (eval (.Name o p) env) Q E s :=
  wpAny_Name (wpAny_loadName_free hk hl hc hv h hcd) hd
theorem ld_own {E : Value → Shared → Prop} {env : Env} {o : Str} {m : Str → Option Value} {v : Value} {Q : Value → Shared → Prop} {p : Pos} (hk : env.scope.kind = .function) (hl : env.kindOf o = some .local) (hn : s.heap.Ns env.locals m) (hv : m o = some v)
    (h : Q v s) (hd : (o == ("__debug__" : Str)) = false) : wpAny (model prog w) B (eval (.Name o p) env) Q E s :=
  wpAny_Name (wpAny_loadName_local hk hl hn hv h) hd
theorem turn_neg {f c' co L tp : Addr} {q o n : Str} {params : Arguments} {scope : Scope} {cl : List (Str × Addr)} {pm ctv : Value} {its us : List Value} {i : Nat} {t0 t1 : Tok} {r : Int} {p1 p2 p3 p4 p5 p6 : Pos} {j : Nat}
    (hf : s.heap.get? f = some (PySem.W.kla_obj "<lambda>" q params (.UnaryOp .USub (.Subscript (.Subscript (.Name o p1) (.Name n p2) p3) (.Constant (.int 0) j p4) p5) p6) scope cl pm c' ctv))
    (hcd : ∃ (oc : Obj) (vs : Array Value) (t : Tok), s.heap.get? c' = some oc ∧ oc.data = .fields vs ∧ vs[1]? = some (.str q t))
    (hroom : B.depth < recursionLimit) (lim : s.heap.NoLimit) (hco : scope.isCoroutine = false) (hge : scope.isGenerator = false) (hk : scope.kind = .function) (hnc : ∀ x ∈ scope.names, x.2 ≠ .cell)
    (hn : scope.names.lookup n = some .local) (ho : scope.names.lookup o = some .free)
    (hbind : ∀ (u v : Value), bindArgs (PySem.W.kla_fn "<lambda>" q params (.UnaryOp .USub (.Subscript (.Subscript (.Name o p1) (.Name n p2) p3) (.Constant (.int 0) j p4) p5) p6) scope cl pm u ctv) ⟨[v], []⟩ = pure [(n, v)])
    (hcl : cl.lookup o = some co) (hcell : s.heap.IsCell co (some (.ref L))) (hL : s.heap.IsList L its.toArray) (hi : its[i]? = some (.ref tp)) (hi63 : i < 2 ^ 63) (hT : IsTup s.heap tp us.toArray) (hu : us[0]? = some (.int r t1)) (hus : us.length < 2 ^ 63)
    (hd1 : (o == ("__debug__" : Str)) = false := by decide) (hd2 : (o == ("__classdict__" : Str)) = false := by decide) (hd3 : (n == ("__debug__" : Str)) = false := by decide) :
    wpAny (model prog w) B (call (.ref f) [.int (i : Int) t0]) (PySem.W.KeyPure (.int (-r)) s) (fun _ _ => False) s := by
  refine wpAny_call (PySem.W.kla_callFunE hroom hf rfl hco hge rfl ?_ ?_)
  · obtain ⟨oc, vs, t, a, b, c⟩ := hcd
    exact ⟨c', oc, vs, t, rfl, a, b, c⟩
  rw [hbind]
  refine wpAny_pure (wpAny_newFunctionEnv hnc (fun y hy => ?_) (fun h₁ hns hsb => ⟨lim.fresh _ hsb, ?_⟩) hk)
  · rw [List.mem_singleton] at hy
    rw [hy]
    exact hn
  have kp : ∀ b o, s.heap.get? b = some o → h₁.get? b = some o := fun b o e => hsb.extBut b o (Nat.ne_of_lt (Heap.lt_size e)) (Heap.get?_push_of_some _ e)
  have hcell' : h₁.IsCell co (some (.ref L)) := by
    obtain ⟨oc, e1, e2⟩ := hcell
    exact ⟨oc, kp _ _ e1, e2⟩
  have hL' : h₁.IsList L its.toArray := by
    obtain ⟨oc, e1, e2⟩ := hL
    exact ⟨oc, kp _ _ e1, e2⟩
  have hT' : IsTup h₁ tp us.toArray := hT.keeps kp
  refine PySem.W.kla_codeExpr ?_
  refine UnaryOp_ (Subscript_ (Subscript_ (ld_captured hk ho hcl hcell' (ld_own (v := .int (i : Int) t0) hk hn hns ?_ ?_ hd3) hd1 hd2)))
  · show ([(n, Value.int (i : Int) t0)] : List (Str × Value)).reverse.lookup n = _
    simp [List.lookup]
  · have l63 := line63
    refine item_listR (x := .ref tp) hL' (by omega) (by omega) (by simpa using hi) ?_ (by with_unfolding_all rfl)
    refine wpAny_Constant_int ?_
    refine subscriptTail_builtinR (x := .int r t1) hT'.typeIs slot_tuple_getitem.lookup (getItem_tuple (j := 0) (x := .int r t1) (Q := fun u s' => u = .int r t1 ∧ _) hT' (by omega) (by omega) ?_ ?_ ⟨rfl, ?_⟩) (by with_unfolding_all rfl)
    · rw [List.size_toArray]
      have hz : 0 < us.length := (List.getElem?_eq_some_iff.mp hu).1
      exact seqIndex_of (by omega) (by omega)
    · simpa using hu
    · exact neg_int ⟨_, _, rfl, fun b o e => kp b o e, .int _ _⟩
end

/-! ### lists of values -/
theorem each_of {β : Type} {f : β → V} : ∀ {bs : List β} {us : List Value}, Vals (bs.map f) us → PySem.W.EachIs (fun u b => RelV (f b) u) us bs
  | [], _, r => by
    cases r
    exact .nil
  | b :: bs, _, r => by
    cases r with
    | cons a r => exact .cons a (each_of r)
theorem of_each {β : Type} {f : β → V} : ∀ {bs : List β} {us : List Value}, PySem.W.EachIs (fun u b => RelV (f b) u) us bs → Vals (bs.map f) us
  | _, _, .nil => .nil
  | _, _, .cons a r => .cons a (of_each r)
theorem sqL_ext {K : PySem.W.Frag} {H H' : Hp} {a : Addr} {xs : List V} (h : SqL K H a xs) (e : LamX.ExtN H H') : SqL K H' a xs := by
  rcases h with (h | ⟨o, h⟩) | h
  · exact .inl (.inl (e _ _ h fun ps z => by cases z))
  · exact .inl (.inr ⟨o, e _ _ h fun ps z => by cases z⟩)
  · exact .inr h
theorem sqT_ext {K : PySem.W.Frag} {H H' : Hp} {a : Addr} {xs : List V} (h : SqT K H a xs) (e : LamX.ExtN H H') : SqT K H' a xs := by
  rcases h with (h | ⟨o, h⟩) | h
  · exact .inl (.inl (e _ _ h fun ps z => by cases z))
  · exact .inl (.inr ⟨o, e _ _ h fun ps z => by cases z⟩)
  · exact .inr h
/-- the names of a lambda with the parameter n that reads o -/
structure LamN (sc scope : Scope) (n o : Str) : Prop where
  kind : scope.kind = .function
  co : scope.isCoroutine = false
  gen : scope.isGenerator = false
  cells : ∀ x ∈ scope.names, x.2 ≠ .cell
  par : scope.names.lookup n = some .local
  free : scope.names.lookup o = some .free
  up : ∀ y ∈ scope.names, y.2 = .free → sc.names.lookup y.1 = some .cell ∨ sc.names.lookup y.1 = some .free
theorem cr_range1 {X : Cx} : CallR X (.type "range") (fun vs H Q => ∃ i, vs = [V.int i] ∧ ∀ p, H p = none → Q (.ref p) (upd H p (.rng 0 i))) := by
  intro pins s σ H vs us Q I r h
  obtain ⟨i, rfl, q⟩ := h
  obtain ⟨u1, rfl, ri⟩ := vals1 r
  obtain ⟨t, rfl⟩ := ri
  refine call_range_1 ⟨.ref s.heap.objs.size, upd H s.heap.objs.size (.rng 0 i), I.laid (t' := s.toks + 2) (fun b o e => Heap.get?_push_of_some _ e) (Nat.le_refl _) ?_, rfl, q _ (I.hok.fresh (Nat.le_refl _))⟩
  exact ⟨_, _, _, Heap.get?_push_size _ rfl⟩
/-- sorted(range(m), key=lambda n: -o[n][0]) -/
def tSortLam (K : PySem.W.Frag) (T : List (Addr × Str)) (io : Nat) (ta : TA) : TE := fun σ H Q => ta σ H fun vs H1 => ∃ (p L : Addr) (m : Nat) (xs : List V) (rk : Nat → Int), vs = [V.ref p] ∧ H1 p = some (.rng 0 (m : Int)) ∧ m ≤ 2 ^ 24 ∧ LamX.Tabs T H1 ∧
  σ[io]? = some (some (.ref L)) ∧ SqL K H1 L xs ∧ (∀ i, i < m → ∃ (tp : Addr) (us : List V), xs[i]? = some (.ref tp) ∧ SqT K H1 tp us ∧ us[0]? = some (.int (rk i))) ∧
  ∀ H2, LamX.ExtN H1 H2 → LamX.Tabs T H2 → ∀ q, H2 q = none → Q (.ref q) (upd H2 q (.lst (((List.range m).mergeSort fun i j => decide (-rk i ≤ -rk j)).map fun i : Nat => V.int (i : Int))))
section
variable {X : Cx} {k : Nat} {T : List (Addr × Str)} {io : Nat} {ta : TA} {e : Expr} {n o : Str} {c P : Addr} {params : Arguments} {scope : Scope} {p kpos lpos pos p1 p2 p3 p4 p5 p6 : Pos} {j : Nat}
theorem pe_sortLam (hc : X.calm = true) (hg : Gl X "sorted") (hm : X.mg "sorted" = none) (ha : PA X [e] ta) (TB : LamX.TabB X.base X.mg c P) (hcode : X.env.code = .ref c) (hmT : (P, X.env.qual ++ "<lambda>") ∈ T) (hu : ∀ p ∈ T, p.1 = P → p.2 = X.env.qual ++ "<lambda>")
    (hr : Room (k + 1) X.A) (L : LamN X.env.scope scope n o) (hN : X.N[io]? = some o) (hdef : defaultsOf params X.env = ([], []))
    (hbind : ∀ (q : Str) (cl : List (Str × Addr)) (pm ctv u v : Value), bindArgs (PySem.W.kla_fn "<lambda>" q params (.UnaryOp .USub (.Subscript (.Subscript (.Name o p1) (.Name n p2) p3) (.Constant (.int 0) j p4) p5) p6) scope cl pm u ctv) ⟨[v], []⟩ = pure [(n, v)])
    (hd1 : (o == ("__debug__" : Str)) = false := by decide) (hd2 : (o == ("__classdict__" : Str)) = false := by decide) (hd3 : (n == ("__debug__" : Str)) = false := by decide)
    (he : backTo pos (starEach [e] X.env) = (false, eval e X.env) :: backTo pos (starEach [] X.env) := by rfl) (hpl : (backTo pos (starEach [e] X.env)).any (·.1) = false := by rfl) :
    PE X (.Call (.Name "sorted" p) [e] [⟨some "key", .Lambda params (.UnaryOp .USub (.Subscript (.Subscript (.Name o p1) (.Name n p2) p3) (.Constant (.int 0) j p4) p5) p6) scope lpos, kpos⟩] pos) (tSortLam X.K T io ta) := by
  refine ⟨fun pins s σ H Q I h => ?_⟩
  refine wpAny_Call_Name_kw (ld_blt I hg hm (by rfl) ?_)
  refine PyProof.Rows.callWith_kw (thn (ha.run pos pins s σ H _ I h) fun us s1 ⟨vs, H1, I1, r1, q1⟩ => ?_) he hpl (by rfl) (by rfl)
  obtain ⟨pr, La, m, xs, rk, rfl, hpr, hm24, hT, hσ, hL, hrow, q⟩ := q1
  obtain rfl := Vals.ref1 r1
  have hfree : ∀ y ∈ scope.names, y.2 = .free → ∃ c, X.env.cells.lookup y.1 = some c := fun y hy e => by
    rcases L.up y hy e with k | k
    · exact I1.ok.has _ (.inl k)
    · exact I1.ok.has _ (.inr k)
  show wpAny _ _ (evalAll [do let v ← eval _ X.env; standAt pos; pure v]) _ _ s1
  refine wpAny_evalAll_cons (wpAny_bind (LamX.lam_make2 I1 TB hcode hmT hu hT hdef hfree fun f c' pm ctv H2 s2 I2 eN T2 hf hfn hfr hco => wpAny_bind (wpAny_standAt (wpAny_pure (wpAny_evalAll_nil ?_)))))
  show wpAny _ _ (call (.builtin "sorted") [.ref pr] [(Str.ofString "key", .ref f)]) _ _ _
  obtain ⟨tr, tr2, tr3, hrg⟩ := I2.hok pr _ (eN _ _ hpr fun ps z => by cases z)
  obtain ⟨⟨oc, vsc, tc, hoc, hdc, hvc⟩, _, _⟩ := I2.hok c' _ hco
  obtain ⟨its, rv, pl, hz⟩ := I2.list (sqL_ext hL eN)
  have hup := L.up (o, .free) (PySem.mem_of_lookup L.free) rfl
  obtain ⟨mm, hns, hlk⟩ := I2.loc
  obtain ⟨u0, ru0, hlook⟩ := hlk io o (.ref La) hN hσ (hup.elim (fun z => .inr (.inl z)) (fun z => .inr (.inr z)))
  obtain rfl : u0 = Value.ref La := ru0
  obtain ⟨co, hcc, hcell⟩ : ∃ co, X.env.cells.lookup o = some co ∧ s2.heap.IsCell co (some (.ref La)) := by
    rcases hlook with ⟨z, _⟩ | ⟨_, z⟩
    · have z : X.env.scope.names.lookup o = some .local := z
      rcases hup with y | y <;> rw [show X.env.scope.names.lookup o = _ from y] at z <;> cases z
    · exact z
  have hcl : (cloFrom X.env.cells scope.names []).lookup o = some co := by
    obtain ⟨c1, e1⟩ := mem_lookup (cloFrom_has (cells := X.env.cells) (acc := []) (PySem.mem_of_lookup L.free))
    rcases cloFrom_mem (PySem.mem_of_lookup e1) with hm | ⟨h1, h2⟩
    · cases hm
    · rw [e1, h2, hcc]
      rfl
  have lim2 := I2.nolimit
  refine PyProof.Rows.call_function_entry_kw PyProof.Rows.kind_sorted PyProof.Rows.plain_sorted PyProof.Rows.entry_sorted (PyProof.Rows.ksk_s1 _ _) ?_
  unfold Builtin.«sorted»
  refine wpAny_bind (m := checkCount "sorted" 1 1 _) (wpAny_pure ?_)
  refine wpAny_bind (L2.collect_range (A := X.A.in1) (a := 0) (b := (m : Int)) (c := 1) (n := m) (I2.ok.hd hc) hrg (small_one (by omega) (by omega) (by omega) (by omega)) (by have e := rangeSize_nat 0 (m : Int); rw [e]; omega) hm24 fun h' tk acc hk hacc => ?_)
  have I3 : Inv X pins σ H2 { s2 with heap := h', toks := tk } := I2.kept hk
  have hal : acc.toList.length = m := by rw [Array.length_toList]; exact hacc.1
  refine wpAny_bind (wpAny_newList ?_ (by rw [hal, sizeLine_eq]; omega))
  have hoL : (h'.push (seqObj "list" acc.toList.toArray 0)).get? h'.objs.size = some (seqObj "list" acc.toList.toArray 0) := Heap.get?_push_size _ rfl
  show wpAny _ _ _ _ _ { s2 with heap := h'.push (seqObj "list" acc.toList.toArray 0), toks := tk }
  have hE : PySem.W.EachIs (fun (u : Value) (i : Nat) => RelV (V.int (i : Int)) u) acc.toList (List.range m) := by
    refine each_of ?_
    rw [← hal]
    refine vals_of_get acc.toList _ fun j u hj => ?_
    obtain ⟨t, rfl⟩ := hacc.2 j u (by rw [← hj, Array.getElem?_toList])
    exact ⟨t, by rw [Int.mul_one, Int.zero_add]⟩
  have old : ∀ b o, s2.heap.get? b = some o → b ≠ h'.objs.size ∧ (h'.push (seqObj "list" acc.toList.toArray 0)).get? b = some o := fun b o e => ⟨Nat.ne_of_lt (Heap.lt_size (hk b o e)), Heap.get?_push_of_some _ (hk b o e)⟩
  refine wpAny_bind (wpAny_holding (PySem.W.list_sort_key_data (b := false) (s := { s2 with heap := h'.push (seqObj "list" acc.toList.toArray 0), toks := tk }) (fun i : Nat => PyData.int (-rk i)) hoL hE (PySem.W.AllAlike.of fun _ _ => rfl) (PySem.W.Sortable.others fun b => ⟨fun z => (nomatch z), fun xs z => (nomatch z)⟩) (by rw [List.length_range, sizeLine_eq]; omega)
    (fun x _ => ?_) (PyProof.Rows.ksk_l1 _ _) (PyProof.Rows.ksk_t1 _ _) (fun v i hv hi hh tk2 kp => ?_) fun out cc hh tk2 kp hD hlen eo => ?_))
  · have := hr.un
    show X.A.units + 1 + 1 + 0 < _
    omega
  · obtain ⟨t0, rfl⟩ := hv
    have hi' : i < m := List.mem_range.mp hi
    obtain ⟨tp, us, hx, hS, hu0⟩ := hrow i hi'
    have kp2 : ∀ b o, s2.heap.get? b = some o → hh.get? b = some o := fun b o e => kp b o (old b o e).1 (old b o e).2
    obtain ⟨w1, ew, rw1⟩ := rv.get hx
    obtain rfl : w1 = Value.ref tp := rw1
    obtain ⟨us', rv', pl', hz'⟩ := I2.tuple (sqT_ext hS eN)
    obtain ⟨w2, ew2, rw2⟩ := rv'.get hu0
    obtain ⟨t3, rfl⟩ := rw2
    have l63 := line63
    have hpL : hh.IsList La its.toArray := by
      obtain ⟨oc, e1, e2⟩ := pl.isList
      exact ⟨oc, kp2 _ _ e1, e2⟩
    have hpC : hh.IsCell co (some (.ref La)) := by
      obtain ⟨oc, e1, e2⟩ := hcell
      exact ⟨oc, kp2 _ _ e1, e2⟩
    exact turn_neg (s := { s2 with heap := hh, toks := tk2 }) (kp2 _ _ hf) ⟨oc, vsc, tc, kp2 _ _ hoc, hdc, hvc⟩ hr.depth (lim2.keeps kp2) L.co L.gen L.kind L.cells L.par L.free (fun u v => hbind _ _ _ _ _ _) hcl hpC hpL ew (by omega) (pl'.keeps kp2) ew2 (by have := rv'.length; omega) hd1 hd2 hd3
  · rw [PySem.W.dataLe_int] at eo
    have hE2 : Vals (((List.range m).mergeSort fun i j => decide (-rk i ≤ -rk j)).map fun i : Nat => V.int (i : Int)) out := of_each eo
    refine wpAny_pure ⟨_, rfl, .ref h'.objs.size, upd H2 h'.objs.size (.lst _), I3.laid (t' := tk2) (fun b u e => ?_) (Nat.le_refl _) ⟨?_, out, cc, hE2, hD⟩, rfl, q H2 eN T2 _ (I3.hok.fresh (Nat.le_refl _))⟩
    · exact kp b u (Nat.ne_of_lt (Heap.lt_size e)) (Heap.get?_push_of_some _ e)
    · rw [List.length_map, List.length_mergeSort, List.length_range, sizeLine_eq]
      omega
end
end RLam

namespace Pot
open PySem PySem.Spec PyProof.Rows L2
open PySem.W (sortingHeap copyHeap sortLe alike alikeAll dataLt dataLe EachIs AllAlike Sortable)
section
variable {X : Cx} {K : PySem.W.Frag}
/-! ### two data of one form told apart by their order -/
theorem op_ltD (hu : X.A.units + 70 < cLine) : OpR X (compareOp .Lt) (fun x y H Q => ∃ da db, Dp X.K H x da ∧ Dp X.K H y db ∧ alike da db = true ∧ da ≠ .none ∧ da.depth ≤ 60 ∧ Q (.bl (dataLt da db)) H) := by
  intro pins s σ H x y v u Q I rx ry h
  obtain ⟨da, db, d1, d2, al, nn, dep, q⟩ := h
  obtain ⟨as, r1⟩ := Dp.reads I _ _ _ d1 rx
  obtain ⟨bs, r2⟩ := Dp.reads I _ _ _ d2 ry
  exact PySem.W.lt_data r1 r2 al nn (Nat.lt_of_le_of_lt (Nat.add_le_add_left (Nat.min_le_left _ _) _) (by omega)) ⟨.bl _, H, I, rfl, q⟩
theorem ko_ltD (hu : X.A.units + 70 < cLine) (h : X.K = K := by rfl) : OpR X (compareOp .Lt) (fun x y H Q => ∃ da db, Dp K H x da ∧ Dp K H y db ∧ alike da db = true ∧ da ≠ .none ∧ da.depth ≤ 60 ∧ Q (.bl (dataLt da db)) H) := h ▸ op_ltD hu
/-! ### sorted of rows, told by what they stand for -/
def rSortedE {β : Type} (K : PySem.W.Frag) (enc : β → PyData) : List V → Hp → VK → Prop := fun vs H Q => ∃ (a : Addr) (xs : List V) (bs : List β), vs = [V.ref a] ∧ SqL K H a xs ∧ DpAll K H xs (bs.map enc) ∧
  ∀ (zs : List V) (p : Addr), DpAll K H zs ((bs.mergeSort (dataLe false enc)).map enc) → H p = none → Q (.ref p) (upd H p (.lst zs))
theorem each_dp {β : Type} {enc : β → PyData} {pins : List (Addr × Obj)} {σ : L2.St} {H : Hp} {s : Shared} (I : Inv X pins σ H s) : ∀ {bs : List β} {xs : List V} {its : List Value}, Vals xs its → DpAll X.K H xs (bs.map enc) →
    EachIs (fun v b => ∃ x, RelV x v ∧ Dp X.K H x (enc b)) its bs ∧ EachIs (fun v b => ∃ as, Reads s.heap v (enc b) as) its bs
  | [], _, _, r, d => by
    cases d
    cases r
    exact ⟨.nil, .nil⟩
  | b :: bs, _, _, r, d => by
    cases d with
    | cons p ps =>
      cases r with
      | cons q qs =>
        obtain ⟨e1, e2⟩ := each_dp I qs ps
        exact ⟨.cons ⟨_, q, p⟩ e1, .cons (Dp.reads I _ _ _ p q) e2⟩
theorem dp_each {β : Type} {enc : β → PyData} {H : Hp} : ∀ {bs : List β} {its : List Value}, EachIs (fun v b => ∃ x, RelV x v ∧ Dp K H x (enc b)) its bs → ∃ xs, Vals xs its ∧ DpAll K H xs (bs.map enc)
  | _, _, .nil => ⟨[], .nil, .nil⟩
  | _, _, .cons ⟨x, r, d⟩ e => by
    obtain ⟨xs, rs, ds⟩ := dp_each e
    exact ⟨x :: xs, .cons r rs, .cons d ds⟩
theorem cr_sortedE {β : Type} {enc : β → PyData} (hu : X.A.units + 70 < cLine) (al : ∀ b b', alike (enc b) (enc b') = true) (tp : ∀ b, ∃ x r, enc b = .tuple (x :: r)) (dep : ∀ b, (enc b).depth ≤ 60) : CallR X (.builtin "sorted") (rSortedE X.K enc) := by
  intro pins s σ H vs0 us0 Q I r h
  obtain ⟨a, xs, bs, rfl, hs, da, q⟩ := h
  obtain ⟨its, rv, hl, hz⟩ := I.list hs
  rw [Vals.ref1 r]
  obtain ⟨e, er⟩ := each_dp I rv da
  have ln : bs.length ≤ sizeLine := by rw [← e.length, ← rv.length]; exact hz
  refine PySem.W.sorted_data hl.isList e er (AllAlike.of al) (Sortable.tuples tp) ln (fun b _ => by have := dep b; omega) fun out lo eo => ?_
  obtain ⟨zs, rz, dz⟩ := dp_each eo
  obtain ⟨ep, hat⟩ := PyProof.Rows.sortedAll_at s.heap its out.toArray
  exact ⟨.ref _, upd H (s.heap.objs.size + 1) (.lst zs), I.laid (t' := s.toks) (fun _ _ => PyProof.Rows.sortedAll_old) (Nat.le_succ _) ⟨by rw [rz.length, lo]; exact ln, out, ep, rz, hat⟩, rfl, q _ _ dz (I.hok.fresh (Nat.le_succ _))⟩
theorem kc_sortedE {β : Type} {enc : β → PyData} (hu : X.A.units + 70 < cLine) (al : ∀ b b', alike (enc b) (enc b') = true) (tp : ∀ b, ∃ x r, enc b = .tuple (x :: r)) (dep : ∀ b, (enc b).depth ≤ 60) (h : X.K = K := by rfl) : CallR X (.builtin "sorted") (rSortedE K enc) := h ▸ cr_sortedE hu al tp dep
/-! ### a[i] op= e of a list -/
def rGetL (K : PySem.W.Frag) : V → V → Hp → VK → Prop := fun x y H Q => ∃ (a : Addr) (xs : List V) (i : Nat) (v : V), x = .ref a ∧ y = .int (i : Int) ∧ SqL K H a xs ∧ xs[i]? = some v ∧ Q v H
theorem get_list : PGet X (rGetL X.K) := by
  intro pins s σ H x y ov iv Q I rx ry h
  obtain ⟨a, xs, i, v, rfl, rfl, hs, g, q⟩ := h
  cases rx
  obtain ⟨t, rfl⟩ := ry
  obtain ⟨its, r, pl, hz⟩ := I.list hs
  obtain ⟨u, eu, ru⟩ := r.get g
  have hi := (List.getElem?_eq_some_iff.mp g).1
  have := line63
  exact wpAny_getItem_list pl.isList (by omega) (by omega) (by simpa using eu) ⟨v, H, I, ru, q⟩
theorem kget_list (h : X.K = K := by rfl) : PGet X (rGetL K) := h ▸ get_list
end
end Pot

namespace Pot
open PySem PySem.Spec PyProof.Rows L2
/-! ### the least of a list of rows; the greatest of whole numbers, or another thing where there is none -/
theorem reads_of {h : Heap} : ∀ {L : List (Value × V × PyData)}, (∀ t ∈ L, ∃ as, Reads h t.1 t.2.2 as) → ∃ as, ReadsAll h (L.map (·.1)) (L.map (·.2.2)) as
  | [], _ => ⟨_, .nil⟩
  | t :: L, H => by
    obtain ⟨as, r⟩ := H t List.mem_cons_self
    obtain ⟨bs, rs⟩ := reads_of fun x hx => H x (List.mem_cons_of_mem _ hx)
    exact ⟨_, .cons r rs⟩
section
variable {X : Cx} {K : PySem.W.Frag}
def rMinD (K : PySem.W.Frag) : List V → Hp → VK → Prop := fun vs H Q => ∃ (a : Addr) (xs : List V) (d : PyData) (ds : List PyData), vs = [V.ref a] ∧ SqL K H a xs ∧ DpAll K H xs (d :: ds) ∧ PySem.W.AlikeAll (d :: ds) ∧ PyData.depthAll (d :: ds) ≤ 60 ∧
  ∀ (v : V) (i : Nat), xs[i]? = some v → (d :: ds)[i]? = some (PySem.W.minD d ds) → Q v H
theorem cr_minD (hc : X.calm = true) (hu : X.A.units + 64 < cLine) : CallR X (.builtin "min") (rMinD X.K) := by
  intro pins s σ H vs0 us0 Q I r h
  obtain ⟨a, xs, d, ds, rfl, hs, da, al, dep, q⟩ := h
  obtain ⟨its, rv, hl, hz⟩ := I.list hs
  rw [Vals.ref1 r]
  obtain ⟨L, e1, e2, e3, all⟩ := each_reads I rv da
  obtain ⟨as, rd⟩ := reads_of (h := s.heap) fun t ht => Dp.reads I _ _ _ (all t ht).2 (all t ht).1
  rw [e1, e3] at rd
  have rd : ReadsAll s.heap its.toArray.toList (d :: ds) as := rd
  have hn : its.toArray.size = ds.length + 1 := PySem.W.readsAll_len rd
  have hh : X.A.handled = none := I.ok.hd hc
  refine PySem.call_min_walkH (PySem.W.iter_listW (A := X.A.in1) hh hl.isList fun s₂ e W st hfp hw hk => ?_)
  refine ⟨_, _, _, _, _, _, _, s.heap, _, rfl, W, st, hfp, by omega, hw, hk, PySem.W.cmpIn_lt (A := X.A.in1) rd al (by show X.A.units + 1 + _ < _; omega), fun v s' hP m => ?_⟩
  obtain ⟨h', tk, rfl, hk'⟩ := PySem.W.moved_old e rfl m
  have e4 : its.toArray.size - 1 = ds.length := by omega
  obtain ⟨b1, b2⟩ := PySem.W.argBest_fold PySem.W.dataLt PyData.none d ds ds.length (Nat.le_refl _)
  rw [List.take_length] at b2
  rw [e4] at hP
  generalize PySem.argBest (fun i j => PySem.W.dataLt ((d :: ds).getD i PyData.none) ((d :: ds).getD j PyData.none)) ds.length = i at hP b1 b2
  have hv : its[i]? = some v := by rw [List.getElem?_toArray] at hP; exact hP
  rw [← e1, List.getElem?_map] at hv
  obtain ⟨t, ht, rfl⟩ := Option.map_eq_some_iff.mp hv
  have tm := List.mem_of_getElem? ht
  refine ⟨t.2.1, H, I.kept hk', (all t tm).1, q t.2.1 i ?_ ?_⟩
  · rw [← e2, List.getElem?_map, ht]; rfl
  · have hi : i < (d :: ds).length := Nat.lt_succ_of_le b1
    rw [List.getD_eq_getElem?_getD, List.getElem?_eq_getElem hi] at b2
    rw [List.getElem?_eq_getElem hi]
    exact congrArg some b2
theorem kc_minD (hu : X.A.units + 64 < cLine) (hc : X.calm = true := by rfl) (h : X.K = K := by rfl) : CallR X (.builtin "min") (rMinD K) := h ▸ cr_minD hc hu
def rMaxO (K : PySem.W.Frag) : List V → List V → Hp → VK → Prop := fun vs zs H Q => ∃ (a : Addr) (ns : List Int) (m : Int), vs = [V.ref a] ∧ zs = [V.int m] ∧ SqL K H a (ns.map V.int) ∧ (ns = [] → Q (.int m) H) ∧ ∀ y ∈ ns, (∀ z ∈ ns, z ≤ y) → Q (.int y) H
theorem max_of : ∀ (ns : List Int) (n : Int), (ns.foldl max n ∈ n :: ns) ∧ ∀ z ∈ n :: ns, z ≤ ns.foldl max n
  | [], n => ⟨List.mem_cons_self, fun z hz => by rw [List.mem_singleton.mp hz]; exact Int.le_refl _⟩
  | k :: ns, n => by
    obtain ⟨h1, h2⟩ := max_of ns (max n k)
    rw [List.foldl_cons]
    refine ⟨?_, fun z hz => ?_⟩
    · rcases List.mem_cons.mp h1 with e | e
      · rw [e]
        by_cases c : n ≤ k
        · rw [show max n k = k by omega]; exact List.mem_cons_of_mem _ List.mem_cons_self
        · rw [show max n k = n by omega]; exact List.mem_cons_self
      · exact List.mem_cons_of_mem _ (List.mem_cons_of_mem _ e)
    · have hm := h2 (max n k) List.mem_cons_self
      rcases List.mem_cons.mp hz with rfl | hz
      · omega
      · rcases List.mem_cons.mp hz with rfl | hz
        · omega
        · exact h2 z (List.mem_cons_of_mem _ hz)
theorem dep_ints : ∀ ns : List Int, PyData.depthAll (ns.map PyData.int) = 0
  | [] => rfl
  | n :: ns => by show max 0 (PyData.depthAll (ns.map PyData.int)) = 0; rw [dep_ints ns]; rfl
theorem cr_maxO (hc : X.calm = true) (hu : X.A.units + 64 < cLine) : CallRK X (.builtin "max") ["default"] (rMaxO X.K) := by
  intro pins s σ H vs0 zs0 us0 ws0 Q I r r2 h
  obtain ⟨a, ns, m, rfl, rfl, hs, q0, q⟩ := h
  obtain ⟨its, rv, hl, hz⟩ := I.list hs
  rw [Vals.ref1 r]
  cases r2 with
  | cons r2 r3 =>
  cases r3
  obtain ⟨t, rfl⟩ := r2
  obtain ⟨L, e1, e2, e3, all⟩ := each_reads I rv (dp_ints ns)
  obtain ⟨as, rd⟩ := reads_of (h := s.heap) fun t ht => Dp.reads I _ _ _ (all t ht).2 (all t ht).1
  rw [e1, e3] at rd
  have rd : ReadsAll s.heap its.toArray.toList (ns.map PyData.int) as := rd
  have hh : X.A.handled = none := I.ok.hd hc
  have al : PySem.W.AlikeAll (ns.map PyData.int) := ⟨fun x hx y hy => by
    obtain ⟨i, _, rfl⟩ := List.mem_map.mp hx
    obtain ⟨j, _, rfl⟩ := List.mem_map.mp hy
    rfl, fun x hx e => by
    obtain ⟨i, _, rfl⟩ := List.mem_map.mp hx
    cases e⟩
  have dp := dep_ints ns
  refine PySem.W.max_list_default hh hl.isList rd al (by rw [dp]; omega) (fun e h' tk hk => ⟨.int m, H, I.kept hk, ⟨t, rfl⟩, q0 (List.map_eq_nil_iff.mp e)⟩) fun y ys i v h' tk bs e hv rr hk => ?_
  cases ns with
  | nil => cases e
  | cons n ns =>
    obtain ⟨rfl, rfl⟩ := List.cons.inj e
    rw [PySem.W.maxD_ints] at rr
    obtain ⟨h1, h2⟩ := max_of ns n
    cases rr
    exact ⟨.int _, H, I.kept hk, ⟨_, rfl⟩, q _ h1 h2⟩
theorem kc_maxO (hu : X.A.units + 64 < cLine) (hc : X.calm = true := by rfl) (h : X.K = K := by rfl) : CallRK X (.builtin "max") ["default"] (rMaxO K) := h ▸ cr_maxO hc hu
end
end Pot

namespace Pot
open PySem PySem.Spec PyProof.Rows L2
/-! ### sets of texts -/
def keyS (e : Int × Value) : Str := match e.2 with | .str k _ => k | _ => ""
def addS (ks : List Str) (k : Str) : List Str := if k ∈ ks then ks else k :: ks
/-- at a stands a set of just the texts ks, none twice -/
def SetS (P : Program) (w : World) (h : Heap) (a : Addr) (ks : List Str) : Prop := ∃ o es ep t,
  h.get? a = some o ∧ o.ExactSet ∧ o.data = .set es ep t ∧ (ElemsOf (strKind P w) es.toList ∧ (es.toList.map keyS).Perm ks ∧ ks.Nodup) ∧ es.size < scanBound ∧ t.fits es.size = true ∧ Ris t.place.toList ∧ (w.params.followText "set-order" = true ∨ t.led = true)
section
variable {P : Program} {w : World} {A : Around} {E : Value → Shared → Prop} {s : Shared} {a : Addr} {ks : List Str}
theorem SetS.at {h h' : Heap} (R : SetS P w h a ks) (k : ∀ o, h.get? a = some o → h'.get? a = some o) : SetS P w h' a ks := by
  obtain ⟨o, es, ep, t, ho, r⟩ := R
  exact ⟨o, es, ep, t, k o ho, r⟩
theorem str_is {e : Int × Value} {z : Str} (h : (∃ k, (strKind P w).is k e.2 = true ∧ e.1 = (strKind P w).hash k) ∧ e.2.scannable = true) : (strKind P w).is z e.2 = true ↔ keyS e = z := by
  obtain ⟨⟨k, h1, _⟩, _⟩ := h
  obtain ⟨t, h2⟩ := Value.isStrOf_shape h1
  unfold keyS
  rw [h2]
  constructor
  · intro h3
    exact (strKind P w).inj _ _ _ (strKind_is P w k t) h3
  · intro h3
    rw [← h3]
    exact strKind_is P w k t
theorem sets_tail {g : Bool → Sem Unit} (hg : ∀ (b : Bool) (z : Shared) (q : Unit → Shared → Prop), q () z → wpAny (model P w) A (g b) q E z)
    {o : Obj} {es : Array (Int × Value)} {ep : Nat} {t : SetTable} (ho : s.heap.get? a = some o) (hex : o.ExactSet) (hd : o.data = .set es ep t)
    {fs : Array (Int × Value)} {u : SetTable} (gg : ElemsOf (strKind P w) fs.toList ∧ (fs.toList.map keyS).Perm ks ∧ ks.Nodup)
    (hb : fs.size < scanBound) (hf : u.fits fs.size = true) (hr : Ris u.place.toList) (hl : w.params.followText "set-order" = true ∨ u.led = true) {was : Bool} {R : Option Bool → Shared → Prop}
    (hR : ∀ h', Heap.SameBut a s.heap h' → SetS P w h' a ks → R (some true) { s with heap := h' }) :
    wpAny (model P w) A (do
        storeSet a fs u
        if (!was && u.tooFull) = true then do
            g (relayAll u fs (SetTable.grown fs.size)).2.2
            storeSet a (relayAll u fs (SetTable.grown fs.size)).1 (relayAll u fs (SetTable.grown fs.size)).2.1
            pure (some true)
          else pure (some true)) R E s := by
  have o1 := store_at (es' := fs) (t' := u) ho hd
  have b1 := Heap.SameBut.update s.heap a (Obj.putSet fs u)
  refine wpAny_bind (wpAny_storeSet_of ho hd ?_ (fits_of_scanBound hb))
  by_cases hc : (!was && u.tooFull) = true
  · rw [if_pos hc]
    obtain ⟨p1, p2, p3, p4⟩ : _ ∧ _ ∧ _ ∧ _ := ⟨relayAll_perm u fs (SetTable.grown fs.size), relayAll_fits u fs (SetTable.grown fs.size), relayAll_ris u fs (SetTable.grown fs.size), relayAll_led u fs (SetTable.grown fs.size)⟩
    generalize relayAll u fs (SetTable.grown fs.size) = Y at p1 p2 p3 p4 ⊢
    obtain ⟨gs, v, x⟩ := Y
    have sz : gs.size = fs.size := by
      have := p1.length_eq
      simpa using this
    have hb2 : gs.size < scanBound := Nat.lt_of_le_of_lt (Nat.le_of_eq sz) hb
    refine wpAny_bind (hg _ _ _ (wpAny_bind (wpAny_storeSet_of o1 rfl ?_ (fits_of_scanBound hb2))))
    have o2 := store_at (es' := gs) (t' := v) o1 rfl
    refine wpAny_pure (hR _ (b1.trans (Heap.SameBut.update _ a _)) ⟨_, gs, _, v, o2, hex, rfl, ⟨fun e he => gg.1 e (p1.mem_iff.mp he), (p1.map keyS).trans gg.2.1, gg.2.2⟩, hb2, p2, p3, ?_⟩)
    rcases hl with z | z
    · exact .inl z
    · exact .inr (p4.trans z)
  · rw [if_neg hc]
    exact wpAny_pure (hR _ b1 ⟨_, fs, _, u, o1, hex, rfl, gg, hb, hf, hr, hl⟩)
theorem sets_add {k : Str} {tk : Tok} {Q : Bool → Shared → Prop} (R : SetS P w s.heap a ks) (room : ks.length + 1 < scanBound)
    (hQ : ∀ b h', Heap.SameBut a s.heap h' → SetS P w h' a (addS ks k) → Q b { s with heap := h' }) :
    wpAny (model P w) A (setAddHashed a (.str k tk) ((strKind P w).hash k)) Q E s := by
  obtain ⟨o, es, ep, t, ho, hex, hd, ⟨gel, gpm, gnd⟩, hb, hf, hr, hl⟩ := id R
  have isk : (strKind P w).is k (.str k tk) = true := strKind_is P w k tk
  have scn : (Value.str k tk).scannable = true := rfl
  unfold setAddHashed setAddHashedIn
  refine wpAny_holding (wpAny_bind (wpAny_setState_of ho hd hf ?_))
  dsimp only
  rw [byScan_of scn hb gel]
  simp only [↓reduceIte]
  unfold setAddByScan
  refine wpAny_bind (wpAny_bind (wpAny_rule (wpAny_bind (wpAny_setScan_of isk ho hd hf gel ?_))))
  cases hx : List.findIdx? (fun e => (strKind P w).is k e.2) es.toList with
  | some j =>
    dsimp only
    obtain ⟨hj, pj, _⟩ := List.findIdx?_eq_some_iff_getElem.mp hx
    have hm : k ∈ ks := gpm.mem_iff.mp (List.mem_map.mpr ⟨_, List.getElem_mem hj, (str_is (gel _ (List.getElem_mem hj))).mp pj⟩)
    refine wpAny_pure (wpAny_pure (hQ _ s.heap (Heap.SameBut.refl a s.heap) ?_))
    unfold addS
    rw [if_pos hm]
    exact R
  | none =>
    dsimp only
    have hn : k ∉ ks := fun z => by
      obtain ⟨e, he, q⟩ := List.mem_map.mp (gpm.mem_iff.mpr z)
      have c := List.findIdx?_eq_none_iff.mp hx e he
      rw [(str_is (gel e he)).mpr q] at c
      cases c
    obtain ⟨p1, p2, p3, p4⟩ : _ ∧ _ ∧ _ ∧ _ := ⟨layNew_perm t es ((strKind P w).hash k) (.str k tk), layNew_fits t es ((strKind P w).hash k) (.str k tk), layNew_ris t es ((strKind P w).hash k) (.str k tk) hr, layNew_led t es ((strKind P w).hash k) (.str k tk)⟩
    generalize layNew t es ((strKind P w).hash k) (.str k tk) = Y at p1 p2 p3 p4 ⊢
    obtain ⟨fs, u, was, gave⟩ := Y
    dsimp only at p1 p2 p3 p4 ⊢
    rw [Array.toList_push] at p1
    have pc := p1.trans (List.perm_append_singleton _ _)
    have eadd : addS ks k = k :: ks := if_neg hn
    have gg : ElemsOf (strKind P w) fs.toList ∧ (fs.toList.map keyS).Perm (addS ks k) ∧ (addS ks k).Nodup := by
      rw [eadd]
      refine ⟨fun e he => ?_, (pc.map keyS).trans (gpm.cons k), List.nodup_cons.mpr ⟨hn, gnd⟩⟩
      rcases List.mem_cons.mp (pc.mem_iff.mp he) with z | z
      · rw [z]; exact ⟨⟨k, isk, rfl⟩, scn⟩
      · exact gel e z
    have sz : fs.size = ks.length + 1 := by
      have h1 := gg.2.1.length_eq
      rw [eadd, List.length_map, Array.length_toList] at h1
      exact h1
    have hb1 : fs.size < scanBound := by rw [sz]; exact room
    have hled : w.params.followText "set-order" = true ∨ u.led = true := by
      rcases hl with z | z
      · exact .inl z
      · exact .inr (p4.trans z)
    have fin : ∀ h', Heap.SameBut a s.heap h' → SetS P w h' a (addS ks k) → Q true { s with heap := h' } := fun h' => hQ true h'
    refine wpAny_bind ?_
    have gw : ∀ (b : Bool) (z : Shared) (q : Unit → Shared → Prop), q () z → wpAny (model P w) A (match b with | true => rule "set.scan.the-table-gave-way" | false => pure ()) q E z := fun b z q hq => by
      cases b
      · exact wpAny_pure hq
      · exact wpAny_rule hq
    refine gw _ _ _ ?_
    split
    · refine wpAny_bind ?_
      rw [hashByValue_scannable 8 scn]
      refine wpAny_pure (sets_tail gw ho hex hd gg hb1 ?_ ?_ ?_ ?_)
      · first | (split <;> first | exact p2 | exact SetTable.fits_plain_off p2) | exact p2
      · first | (split <;> exact p3) | exact p3
      · first | (split <;> exact hled) | exact hled
      · intro h' sb r; dsimp only; exact wpAny_pure (fin h' sb r)
    · refine wpAny_bind (wpAny_pure ?_)
      simp only [↓reduceIte]
      refine sets_tail gw ho hex hd gg hb1 p2 p3 hled ?_
      intro h' sb r; dsimp only; exact wpAny_pure (fin h' sb r)
end
end Pot

namespace Pot
open PySem PySem.Spec PyProof.Rows L2 PySem.W PySem.Calls
/-- the texts of a row, none twice -/
def setL : List Str → List Str := List.foldl addS []
section
variable {P : Program} {w : World} {A : Around} {E : Value → Shared → Prop} {s : Shared}
theorem addS_len (ks : List Str) (k : Str) : (addS ks k).length ≤ ks.length + 1 := by
  unfold addS; split
  · omega
  · exact Nat.le_refl _
theorem setL_take {zs : List Str} {i : Nat} {z : Str} (h : zs[i]? = some z) : setL (zs.take (i + 1)) = addS (setL (zs.take i)) z := by
  unfold setL
  rw [List.take_add_one, h, List.foldl_append]; rfl
theorem fold_len (zs ks : List Str) : (List.foldl addS ks zs).length ≤ ks.length + zs.length := by
  induction zs generalizing ks with
  | nil => exact Nat.le_refl _
  | cons z zs ih =>
    have h1 := ih (addS ks z)
    have h2 := addS_len ks z
    simp only [List.foldl_cons, List.length_cons]
    omega
theorem setL_len (zs : List Str) : (setL zs).length ≤ zs.length := by have := fold_len zs []; simpa [setL] using this
theorem mem_addS {ks : List Str} {k x : Str} : x ∈ addS ks k ↔ x ∈ ks ∨ x = k := by
  unfold addS
  split
  · rename_i h
    exact ⟨.inl, fun z => z.elim id fun e => e ▸ h⟩
  · rw [List.mem_cons]; exact Or.comm
theorem mem_fold {x : Str} (zs : List Str) : ∀ ks : List Str, x ∈ List.foldl addS ks zs ↔ x ∈ ks ∨ x ∈ zs := by
  induction zs with
  | nil => intro ks; simp
  | cons z zs ih =>
    intro ks
    rw [List.foldl_cons, ih, mem_addS, List.mem_cons, or_assoc]
theorem mem_setL {x : Str} {zs : List Str} : x ∈ setL zs ↔ x ∈ zs := by
  have := mem_fold (x := x) zs []
  simpa [setL] using this
/-- set.update's loop over texts -/
theorem sets_loop {I : Addr} {fp wr : List Addr} {G : Array GenState → Array GenState → Prop} {n : Nat} {Pv : Nat → Value → Prop} {St : Nat → Shared → Prop} {R : Result → Shared → Prop}
    (W : WalksS P w A.in1 I fp wr G n Pv St) (S : Addr) (nf : S ∉ fp) (zs : List Str) (en : n = zs.length) (lb : zs.length + 1 < scanBound) (each : ∀ i v, Pv i v → ∃ z t, zs[i]? = some z ∧ v = .str z t) :
    ∀ (m i : Nat) (z : Shared), n - i = m → i ≤ n → St i z → SetS P w z.heap S (setL (zs.take i)) →
      (∀ z', Moved (S :: wr) G z z' → SetS P w z'.heap S (setL zs) → R (.ok (.ret .none)) z') →
      codeAny (model P w) A (.builtin "set.update.loop" ⟨[.ref S, .ref I], []⟩) R z := by
  have nw : S ∉ wr := fun h => nf (W.sub _ h)
  have up : ∀ b ∈ wr, b ∈ S :: wr := fun b hb => List.mem_cons_of_mem _ hb
  intro m
  induction m with
  | zero =>
    intro i z e1 e2 st hS hR
    obtain rfl : i = n := by omega
    refine codeAny_builtin F.entry_set_update_loop ?_
    rw [Around.under_plainId F.plain_set_update_loop _]
    show wpAny _ A.in1 (pyNext (.ref I) >>= _) _ _ z
    refine wpAny_bind (W.done z _ _ st fun z' mv => ?_)
    show wpAny _ A.in1 (ret Value.none) _ _ z'
    rw [List.take_of_length_le (show zs.length ≤ i by omega)] at hS
    exact wpAny_pure (hR z' (mv.mono up) (hS.at fun o e => mv.heap S o nw e))
  | succ m ih =>
    intro i z e1 e2 st hS hR
    have lt : i < n := by omega
    refine codeAny_builtin F.entry_set_update_loop ?_
    rw [Around.under_plainId F.plain_set_update_loop _]
    show wpAny _ A.in1 (pyNext (.ref I) >>= _) _ _ z
    refine wpAny_bind (W.item i z _ _ lt st fun v z' pv st' mv => ?_)
    obtain ⟨y, t, hy, rfl⟩ := each i v pv
    have hS' : SetS P w z'.heap S (setL (zs.take i)) := hS.at fun o e => mv.heap S o nw e
    show wpAny _ A.in1 (holding [Value.str y t] (setAdd S (.str y t)) >>= _) _ _ z'
    refine wpAny_bind (wpAny_holding ?_)
    unfold setAdd
    refine wpAny_holding (wpAny_bind ((strKind P w).pyHash (k := y) (strKind_is _ _ _ _) ?_))
    have len : (setL (zs.take i)).length + 1 < scanBound := by
      have h1 := setL_len (zs.take i)
      rw [List.length_take] at h1
      omega
    refine sets_add (s := { z' with toks := z'.toks + 1 }) hS' len fun b h' sb hS2 => ?_
    rw [← setL_take hy] at hS2
    refine wpAny_pure ⟨plainId_quiet F.plain_set_update_loop _, ih (i + 1) _ (by omega) lt (W.frame _ z' _ _ st' (Nat.le_succ _) fun b hb o e => ?_) hS2 fun z'' mv2 hS3 => ?_⟩
    · exact (sb.2 b fun h => nf (h ▸ hb)).trans e
    · refine hR z'' (Moved.trans W.gtrans ((mv.mono up).then_heap (Nat.le_succ _) fun b o hb e => ?_) mv2) hS3
      exact (sb.2 b fun h => hb (h ▸ List.mem_cons_self)).trans e
/-- what is wanted behind the filling -/
def FilledS (P : Program) (w : World) (s : Shared) (zs : List Str) (s' : Shared) : Prop := ∃ h' tk, s' = { s with heap := h', toks := tk } ∧ SetS P w h' s.heap.objs.size (setL zs) ∧ ∀ b o, s.heap.get? b = some o → h'.get? b = some o
theorem sets_new {h : Heap} {a : Addr} (ho : h.get? a = some (emptySet w)) : SetS P w h a [] := by
  refine ⟨_, #[], 0, _, ho, ⟨rfl, rfl, rfl⟩, rfl, ⟨fun e he => by simp at he, List.Perm.nil, List.nodup_nil⟩, by decide, rfl, List.Pairwise.nil, ?_⟩
  show _ ∨ (!w.params.followText "set-order") = true
  cases w.params.followText "set-order"
  · exact .inr rfl
  · exact .inl rfl
set_option maxHeartbeats 4000000 in
theorem call_set_ls {l : Addr} {items : Array Value} (zs : List Str) {Q : Value → Shared → Prop} (hh : A.handled = none) (hl : s.heap.IsList l items) (hit : StrsAre items.toList zs) (hb : zs.length + 1 < scanBound)
    (hq : ∀ s', FilledS P w s zs s' → Q (.ref s.heap.objs.size) s') : wpAny (model P w) A (call (.type "set") [.ref l]) Q E s := by
  have size : items.size = zs.length := by
    rw [← Array.length_toList]; exact StrsAre.length hit
  have made := F.called_set.made
  have below := F.called_set.sub
  obtain ⟨_, _, chain⟩ := F.called_set.mro
  have nt := F.called_set.notType
  have cc := F.called_set.canCreate
  have ck := F.typeCall_set_1 (.ref l)
  refine wpAny_call (codeAny_of_tree (show wpAny _ _ (callAny (.type "set") _) _ _ _ from wpAny_pure ⟨Code.quiet_builtin _ (by decide +kernel), codeAny_builtin F.entry_type_call ?_⟩))
  rw [Around.under_plain (weight_type_call_type "set" [.ref l] []) rfl]
  repeat (any_goals (first | assumption | wp_step))
  refine codeAny_mono (code_set_led1 (.ref l) (E := E) (Q₁ := fun obj z => obj = .ref s.heap.objs.size ∧ z = { s with heap := s.heap.push (emptySet w) }) ⟨rfl, rfl⟩) fun r z hr => ?_
  rcases r with _ | fl
  case error => exact hr
  cases fl <;> first | exact hr.elim | skip
  obtain ⟨rfl, rfl⟩ := hr
  have at0 : (s.heap.push (emptySet w)).get? s.heap.objs.size = some (emptySet w) := Heap.get?_push_size _ rfl
  have ty0 : Shared.TypeIs { s with heap := s.heap.push (emptySet w) } (.ref s.heap.objs.size) "set" := ⟨_, at0, rfl⟩
  have li := F.called_set.init.lookup
  have bi := F.called_set.init.bind (.ref s.heap.objs.size)
  repeat (any_goals (first | assumption | wp_step))
  refine codeAny_mono (codeAny_call_builtin (R := wants (fun r z => r = .none ∧ FilledS P w s zs z) E) F.called_set.init.plain F.entry_set_init (check_set_init_1 ty0 ?_)) fun r z hz => ?_
  · obtain ⟨⟨_, od, _, os⟩, hol, hcl, nl, hdl⟩ := hl
    simp only at hcl hdl
    subst hcl
    subst hdl
    have keep : (s.heap.push (emptySet w)).get? l = some { cls := .type "list", dict := od, data := .seq items nl, slots := os } := Heap.get?_push_of_some _ hol
    have s1 := F.sub_list_set
    have s2 := F.sub_list_frozenset
    have s3 : (Value.type "list" == Value.type "dict") = false := by decide
    have isl : (s.heap.push (emptySet w)).IsList l items := ⟨_, keep, rfl, nl, rfl⟩
    unfold Builtin.«set.__init__» noKeywords Builtin.Frozenset.updateFrom
    generalize hPI : pyIter = PI
    wp_walk
    subst hPI
    refine wpAny_pyIter_list isl (wpAny_bind (wpAny_runValue ?_))
    have lt : l < s.heap.objs.size := Heap.lt_size hol
    have sz : (s.heap.push (emptySet w)).objs.size = s.heap.objs.size + 1 := Heap.size_push ..
    have ne1 : l ≠ (s.heap.push (emptySet w)).objs.size := by rw [sz]; exact Nat.ne_of_lt (Nat.lt_succ_of_lt lt)
    have ne2 : s.heap.objs.size ∉ [(s.heap.push (emptySet w)).objs.size, l] := by
      rw [sz]
      intro z
      rcases List.mem_cons.mp z with z | z
      · exact absurd z (Nat.ne_of_lt (Nat.lt_succ_self _))
      · exact absurd (List.mem_singleton.mp z) (Nat.ne_of_gt lt)
    have each : ∀ (i : Nat) (v : Value), items[i]? = some v → ∃ k t, zs[i]? = some k ∧ v = .str k t := fun i v hv => by
      have h1 : items.toList[i]? = some v := by rw [Array.getElem?_toList]; exact hv
      clear hv size isl keep hol hb hq
      generalize items.toList = L at hit h1
      induction hit generalizing i with
      | nil => simp at h1
      | cons k t hr ih =>
        cases i with
        | zero => exact ⟨k, t, rfl, by simpa using h1.symm⟩
        | succ i => exact ih i (by simpa using h1)
    refine sets_loop ((Walks.list (show A.in1.in1.in1.handled = none by simp [hh]) _ l ne1 items).toS) s.heap.objs.size ne2 zs size hb each (items.size - 0) 0 _ (by omega) (Nat.zero_le _) ⟨⟨_, Heap.get?_push_size _ rfl, rfl, rfl⟩, isl.push _⟩ (sets_new (Heap.get?_push_of_some _ at0)) fun s' hm hS => ?_
    obtain ⟨h', g, d, tk, o⟩ := s'
    cases (show g = s.gens from hm.gens)
    cases (show d = s.drawn from hm.drawn)
    cases (show o = s.os from hm.os)
    refine (show wpAny _ _ _ _ _ _ from wpAny_pure (show wpAny _ _ (ret Value.none) _ _ _ from wpAny_pure ⟨rfl, h', tk, rfl, hS, fun b o e => ?_⟩))
    have hb0 : b < s.heap.objs.size := Heap.lt_size e
    refine hm.heap b o (fun z => ?_) (Heap.get?_push_of_some _ (Heap.get?_push_of_some _ e))
    rcases List.mem_cons.mp z with z | z
    · exact absurd z (Nat.ne_of_lt hb0)
    · exact absurd ((List.mem_singleton.mp z).trans sz) (Nat.ne_of_lt (Nat.lt_succ_of_lt hb0))
  · rcases r with _ | fl
    case error => exact hz
    cases fl <;> first | exact hz.elim | skip
    obtain ⟨rfl, f⟩ := hz
    obtain ⟨h', tk, rfl, hS, k⟩ := id f
    repeat (any_goals (first | assumption | wp_step))
    exact hq _ ⟨_, _, rfl, hS, k⟩
/-- sorted of a set of texts -/
theorem sorted_sets {a : Addr} {ks : List Str} {Q : Value → Shared → Prop} (R : SetS P w s.heap a ks) (hh : A.handled = none) (hn4 : ks.length < 64)
    (hQ : ∀ s' p (out : Array Value) (c : Nat) (ys : List Str), (∀ b o, s.heap.get? b = some o → s'.heap.get? b = some o) → s'.gens = s.gens → s'.os = s.os → s.heap.objs.size ≤ p →
      s'.heap.get? p = some (seqObj "list" out c) → StrsAre out.toList ys → ys.Perm ks → sortedS ys = true → Q (.ref p) s') :
    wpAny (model P w) A (call (.builtin "sorted") [.ref a]) Q E s := by
  obtain ⟨o, es, ep, t, ho, hex, hd, ⟨gel, gpm, gnd⟩, hb, hf, hr, hl⟩ := R
  refine Calls.call_function_entry kind_sorted plain_sorted entry_sorted (args_sorted1 _) ?_
  unfold Builtin.«sorted»
  refine wpAny_bind (m := checkCount "sorted" 1 1 _) (wpAny_pure ?_)
  refine wpAny_bind (collect_set (A := A.in1) hh ⟨o, ho, hex.1, hd⟩ hf hb hr hl fun s1 vs k1 hz g1 o1 pm => ?_)
  have sl : ∀ l : List Value, (∀ v ∈ l, ∃ e : Int × Value, e ∈ es.toList ∧ e.2 = v) → StrsAre l (l.map fun v => keyS (0, v)) := by
    intro l
    induction l with
    | nil => intro _; exact .nil
    | cons v l ih =>
      intro h
      obtain ⟨e, he, rfl⟩ := h v List.mem_cons_self
      obtain ⟨⟨k, h1, _⟩, _⟩ := gel e he
      obtain ⟨tk, h2⟩ := Value.isStrOf_shape h1
      rw [h2]
      exact .cons k tk (ih fun u hu => h u (List.mem_cons_of_mem _ hu))
  have hv : StrsAre vs (vs.map fun v => keyS (0, v)) := sl vs fun v hv => by
    obtain ⟨e, he, rfl⟩ := List.mem_map.mp (pm.mem_iff.mp hv)
    exact ⟨e, he, rfl⟩
  have pk : (vs.map fun v => keyS (0, v)).Perm ks := by
    have h1 := pm.map fun v => keyS (0, v)
    rw [List.map_map] at h1
    exact h1.trans gpm
  have lv : vs.length = ks.length := by have := pk.length_eq; rw [List.length_map] at this; exact this
  have ls : vs.length ≤ sizeLine := by rw [lv, sizeLine_eq]; omega
  refine wpAny_bind (wpAny_newList ?_ ls)
  have hL : (s1.heap.push (seqObj "list" vs.toArray 0)).get? s1.heap.objs.size = some (seqObj "list" vs.toArray 0) := Heap.get?_push_size _ rfl
  refine wpAny_bind (wpAny_holding (wpAny_call_entry slot_list_sort ⟨_, hL, rfl⟩ entry_list_sort (list_sort_treeK strKind_oneLt hL hv.keysOf (fun v₁ v₂ rest e => keyKind_strs (by rw [← e]; exact hv)) (by rw [lv]; exact hn4) fun st' hp hs => ⟨_, rfl, ?_⟩) (args_list_sort _)))
  obtain ⟨ys, a1, a2, a3⟩ := sorted_out_str hv hp hs
  obtain ⟨c, hc⟩ := sortedHeap_at (vs := vs) (out := (arrOf st').map (·.2)) hL
  refine wpAny_pure ⟨_, rfl, hQ _ s1.heap.objs.size _ c ys (fun b u e => ?_) g1 o1 hz hc a1 (a2.trans pk) a3⟩
  have h1 := k1 b u e
  have hlt := Heap.lt_size h1
  show (sortedHeap (s1.heap.push (seqObj "list" vs.toArray 0)) s1.heap.objs.size vs _).get? b = some u
  rw [sortedHeap_old (Nat.ne_of_lt hlt) (by rw [size_push']; exact Nat.lt_succ_of_lt hlt)]
  exact Heap.get?_push_of_some _ h1
end
section
variable {X : Cx} {K : PySem.W.Frag}
def SetSO (P : Program) (w : World) (a : Addr) (ks : List Str) : HO := .ext fun h => SetS P w h a ks
theorem setS_new {P : Program} {w : World} {H : Hp} {h : Heap} {a : Addr} {ks : List Str} (R : SetS P w h a ks) : ObjOk P w H h a (SetSO P w a ks) := by
  have R0 := R
  obtain ⟨o, _, _, _, ho, _⟩ := R
  exact ⟨R0, ⟨o, ho⟩, fun h1 h2 R k => SetS.at R k⟩
/-- set(xs) of texts -/
def rSetLs (K : PySem.W.Frag) (P : Program) (w : World) : List V → Hp → VK → Prop := fun xs H Q => ∃ (a : Addr) (zs : List Str), xs = [V.ref a] ∧ SqL K H a (zs.map V.str) ∧ zs.length ≤ 1000 ∧
  ∀ (p : Addr), H p = none → Q (.ref p) (upd H p (SetSO P w p (setL zs)))
theorem cr_setLs (hc : X.calm = true) : CallR X (.type "set") (rSetLs X.K X.prog X.w) := by
  intro pins s σ H vs us Q I r h
  obtain ⟨a, zs, rfl, hS, hl, q⟩ := h
  rw [Vals.ref1 r]
  obtain ⟨its, rv, pl, hz⟩ := I.list hS
  refine call_set_ls zs (I.ok.hd hc) pl.isList (by simpa using Vals.strs rv) (by unfold scanBound; omega) fun s' f => ?_
  obtain ⟨h', tk, rfl, R, k⟩ := f
  have hn : H s.heap.objs.size = none := I.hok.fresh (Nat.le_refl _)
  exact ⟨.ref s.heap.objs.size, _, I.laid (t' := tk) k (Nat.le_refl _) (setS_new R), rfl, q _ hn⟩
theorem kc_setLs {P : Program} {w : World} (hc : X.calm = true := by rfl) (h : X.K = K := by rfl) (hp : X.prog = P := by rfl) (hw : X.w = w := by rfl) : CallR X (.type "set") (rSetLs K P w) := by subst h; subst hw; subst hp; exact cr_setLs hc
def rSortedSs (P : Program) (w : World) : List V → Hp → VK → Prop := fun vs H Q => ∃ (a : Addr) (ks : List Str), vs = [V.ref a] ∧ H a = some (SetSO P w a ks) ∧ ks.length < 64 ∧
  ∀ (ys : List Str) (p : Addr), ys.Perm ks → sortedS ys = true → H p = none → Q (.ref p) (upd H p (.lst (ys.map V.str)))
theorem cr_sortedSs (hc : X.calm = true) : CallR X (.builtin "sorted") (rSortedSs X.prog X.w) := by
  intro pins s σ H vs us Q I r h
  obtain ⟨a, ks, rfl, ha, h4, q⟩ := h
  rw [Vals.ref1 r]
  refine sorted_sets ((I.hok a _ ha).1) (I.ok.hd hc) h4 fun s' p out c ys k g o hp hg hi hs hl => ?_
  have hlen : (ys.map V.str).length ≤ sizeLine := by rw [List.length_map, hs.length_eq, sizeLine_eq]; omega
  have hn : H p = none := I.hok.fresh hp
  have J : Inv X pins σ (upd H p (.lst (ys.map V.str))) { s with heap := s'.heap, gens := s'.gens, drawn := s'.drawn, toks := s'.toks } :=
    I.call (ch := []) (Un.laid k hp hn) (I.hok.laid k hp ⟨hlen, out.toList, c, vals_of_strs hi, hg⟩) (by rw [g]; exact I.bare) (fun _ z => nomatch z)
  have e : s' = { s with heap := s'.heap, gens := s'.gens, drawn := s'.drawn, toks := s'.toks } := by
    cases s'; cases s; cases o; rfl
  rw [e]
  exact ⟨.ref p, _, J, rfl, q ys p hs hl hn⟩
theorem kc_sortedSs {P : Program} {w : World} (hc : X.calm = true := by rfl) (hp : X.prog = P := by rfl) (hw : X.w = w := by rfl) : CallR X (.builtin "sorted") (rSortedSs P w) := by subst hw; subst hp; exact cr_sortedSs hc
end
end Pot

namespace Pot
open PySem PySem.Spec PyProof.Rows L2
/-! ### dict of a list of pairs, a text thrice to the letter -/
section
variable {X : Cx} {K : PySem.W.Frag}
def Dct (mg : Str → Option Value) : Prop := mg "dict" = none
def rDictP (K : PySem.W.Frag) : List V → Hp → VK → Prop := fun xs H Q => ∃ (a : Addr) (ps : List Addr) (kvs : List (Key × V)), xs = [.ref a] ∧ SqL K H a (ps.map V.ref) ∧ Paired (fun p kv => SqT K H p [kV kv.1, kv.2]) ps kvs ∧ ∀ p, H p = none → Q (.ref p) (upd H p (.dK (mergeK [] kvs)))
theorem kc_dictP (hc : X.calm = true := by rfl) (h : X.K = K := by rfl) : CallR X (.type "dict") (rDictP K) := by subst h; exact call_dictP hc
def rRepE : R2 := fun x y H Q => ∃ z : Str, x = .str z ∧ y = .int 3 ∧ z.length ≤ 100000 ∧ Q (.str (Txt.mul z 3)) H
theorem op_repE : OpR X (binaryOp .Mult) rRepE := by
  intro pins sh sg H xv yv v1 u1 Q I r1 r2 h
  obtain ⟨z, rfl, rfl, hz, q⟩ := h
  obtain ⟨tk1, rfl⟩ := r1
  obtain ⟨tk2, rfl⟩ := r2
  refine SB.mul ⟨by decide, fun _ _ hh => ?_, fun _ _ => ?_⟩ (fun tt kk => ⟨.str (Txt.mul z 3), H, I.tok _, ⟨_, rfl⟩, q⟩)
  · have : ((2 : Int) ^ 63 - 1) / 3 = 3074457345618258602 := by decide
    omega
  · have e : (3 : Int).toNat = 3 := rfl
    rw [e]
    show decide _ = false
    refine decide_eq_false ?_
    have := sizeLine_eq
    omega
end
/-! ### pairs as keys and values -/
theorem putK_new {kvs : List (Key × V)} {k : Key} {v : V} (h : ∀ p ∈ kvs, p.1 ≠ k) : putK kvs k v = kvs ++ [(k, v)] := by
  unfold putK
  rw [if_neg]
  intro z
  obtain ⟨p, hp, e⟩ := List.any_eq_true.mp z
  exact h p hp (of_decide_eq_true e)
theorem merge_nd : ∀ (more kvs : List (Key × V)), ((kvs ++ more).map (·.1)).Nodup → mergeK kvs more = kvs ++ more
  | [], kvs, _ => by show kvs = kvs ++ []; rw [List.append_nil]
  | p :: more, kvs, nd => by
    show mergeK (putK kvs p.1 p.2) more = kvs ++ p :: more
    rw [putK_new]
    · rw [merge_nd more (kvs ++ [(p.1, p.2)]) (by rw [List.append_assoc]; exact nd), List.append_assoc]; rfl
    · intro q hq e
      rw [List.map_append, List.nodup_append] at nd
      exact nd.2.2 q.1 (List.mem_map.mpr ⟨q, hq, rfl⟩) p.1 (List.mem_map.mpr ⟨p, List.mem_cons_self, rfl⟩) e
end Pot

namespace Pot
open PySem PySem.Spec PyProof.Rows L2
/-! ### dicts whose keys are tuples: one written with one pair, the greatest of the values -/
def tDispT (tk tv : TE) : TE := fun σ H Q => ∀ p, H p = none → tk σ (upd H p (.dT [])) fun x H1 => tv σ H1 fun y H2 => ∃ (b : Addr) (k : List Key), x = .ref b ∧ H2 b = some (.tup (k.map kV)) ∧ H2 p = some (.dT []) ∧ Q (.ref p) (upd H2 p (.dT [(k, y)]))
def rValsT : V → List V → Hp → VK → Prop := fun x xs H Q => ∃ (a : Addr) (kvs : List (List Key × V)), x = .ref a ∧ xs = [] ∧ H a = some (.dT kvs) ∧ ∀ p, H p = none → Q (.ref p) (upd H p (viewO "dict_values" p a))
def rMaxT : List V → Hp → VK → Prop := fun xs H Q => ∃ (p a : Addr) (kvs : List (List Key × V)) (ns : List Int), xs = [.ref p] ∧ H p = some (viewO "dict_values" p a) ∧ H a = some (.dT kvs) ∧ kvs.map Prod.snd = ns.map V.int ∧ 0 < ns.length ∧ ∀ m, m ∈ ns → (∀ y, y ∈ ns → y ≤ m) → Q (.int m) H
section
variable {X : Cx}
theorem pe_dispT {k v : Expr} {pos : Pos} {tk tv : TE} (hu : X.A.units + 1 < cLine) (hk : PE X k tk) (hv : PE X v tv) : PE X (.Dict [some k] [v] pos) (tDispT tk tv) := by
  refine ⟨fun pins s σ H Q I q => ?_⟩
  have fresh := I.hok.fresh (Nat.le_refl s.heap.objs.size)
  have J := I.laid (t' := s.toks) (a := s.heap.objs.size) (o := .dT []) (h' := s.heap.push { cls := .type "dict", data := .dict #[] }) (fun _ _ z => Heap.get?_push_of_some _ z) (Nat.le_refl _) (dt_empty s.heap I.big)
  have two : PPs X pos [some k] [v] [(tk, tv)] := pps_cons hk hv pps_nil
  rw [arm_eval_Dict, zip_pairTrees [some k] [v] X.env pos rfl rfl, dictDisplay_pairs _ (by exact List.cons_ne_nil _ _) (by exact Nat.le_of_ble_eq_true rfl)]
  have go := two.run pins _ σ _ (fun ps H2 => match ps with
    | [(x, y)] => ∃ (b : Addr) (k : List Key), x = .ref b ∧ H2 b = some (.tup (k.map kV)) ∧ H2 s.heap.objs.size = some (.dT []) ∧ Q (.ref s.heap.objs.size) (upd H2 s.heap.objs.size (.dT [(k, y)]))
    | _ => False) J (q _ fresh)
  refine wpAny_bind (wpAny_standAt (wpAny_bind (wpAny_subDictH (knd := tupleKind (mixKind X.prog X.w)) (Q := fun d s2 => wpAny (model X.prog X.w) X.A (pure (Value.ref d)) (EP X pins σ Q) X.xe s2) (show X.A.units < cLine by omega) (by exact Nat.le_of_ble_eq_true rfl) (thn go fun ws s2 res => ?_))))
  obtain ⟨ps, H2, I2, rel, z⟩ := res
  cases rel with
  | nil => exact z.elim
  | @cons a0 b0 as bs r0 t =>
    cases t with
    | cons _ _ => exact z.elim
    | nil =>
      obtain ⟨x, y⟩ := a0
      obtain ⟨u, r⟩ := b0
      obtain ⟨r1, r2⟩ := r0
      obtain ⟨b, ks, rfl, hb, hd, z⟩ := z
      obtain rfl : u = Value.ref b := r1
      obtain ⟨small, sys, xs, kt, dd⟩ := dt_of I2.hok hd
      cases kt
      refine ⟨[(ks, b, r)], ⟨rfl, rfl, L2.key_of I2.hok hb, trivial⟩, dd, fun h2 tk dd2 only => wpAny_pure ?_⟩
      obtain ⟨o, es, ep, at_, c1, c2, c3, c4, c5⟩ := dd2
      have J2 := d_write (t' := tk) I2 (by rw [hd]; exact True.intro) only ⟨o, at_⟩ (ob := .dT [(ks, y)]) ⟨by show 1 ≤ sizeLine; decide, sys, _, .cons ⟨rfl, by rw [upd_ne (ne_of hb hd (fun w => nomatch w))]; exact hb, r2⟩ .nil, o, es, ep, at_, c1, c2, c3, c5⟩
      exact ⟨.ref _, _, J2, rfl, z⟩
theorem mt_valuesT : MtR X "dict.values" rValsT := by
  intro pins s σ H x xs v us Q I rx rxs h
  obtain ⟨a, kvs, rfl, rfl, at_, q⟩ := h
  cases rx
  cases rxs
  obtain ⟨_, sys, xs, _, dd⟩ := dt_of I.hok at_
  obtain ⟨o, es, ep, lies, c1, c2, _⟩ := id dd
  refine call_meetsIn PySem.F.slot_dict_values dd.typeIs PySem.F.entry_dict_values (PySem.F.args_dict_values_1 _) (meets_dict_values_raw a sys) ⟨⟨es, ep, o, lies, c1, c2⟩, ?_⟩
  exact ⟨.ref s.heap.objs.size, _, I.laid (t' := s.toks) (fun _ _ z => Heap.get?_push_of_some _ z) (Nat.le_refl _) (viewO_ok (Heap.get?_push_size _ rfl)), rfl, q _ (I.hok.fresh (Nat.le_refl _))⟩
theorem mates {α β : Type} {F : α → β → Prop} : ∀ {l : List α} {m : List β} {i : Nat} {y : β}, Paired F l m → m[i]? = some y → ∃ x, l[i]? = some x ∧ F x y
  | _, _, i, y, .nil, g => by simp at g
  | _, _, 0, y, .cons (a := x) f _, g => ⟨x, rfl, by cases g; exact f⟩
  | _, _, i + 1, y, .cons _ t, g => mates (i := i) t g
theorem cr_maxT (hc : X.calm = true) : CallR X (.builtin "max") rMaxT := by
  intro pins s σ H xs us Q I rx h
  obtain ⟨p, a, kvs, ns, rfl, view, at_, vals, some_, q⟩ := h
  rw [Vals.ref1 rx]
  have hv : s.heap.get? p = some (DSub.viewOb "dict_values" a) := (show ObjOk X.prog X.w H s.heap p (viewO "dict_values" p a) from I.hok p _ view).1
  obtain ⟨_, sys, xs, kt, dd⟩ := dt_of I.hok at_
  obtain ⟨o, es, ep, lies, c1, c2, c3, c4, c5⟩ := id dd
  have n1 : kvs.length = ns.length := by simpa using congrArg List.length vals
  have n2 : xs.length = kvs.length := (Paired.length kt).symm
  have n3 : es.size = ns.length := by rw [size_of_entries c3]; omega
  have val : ∀ (i : Nat) (e : DictEntry), es[i]? = some e → ∃ t, e.val = .int (ns.getD i 0) t := fun i e g => by
    rw [entry_at c3, Option.map_eq_some_iff] at g
    obtain ⟨y, gy, rfl⟩ := g
    obtain ⟨x, gx, f⟩ := mates kt gy
    have g2 : (kvs.map Prod.snd)[i]? = some x.2 := by rw [List.getElem?_map, gx]; rfl
    rw [vals, List.getElem?_map, Option.map_eq_some_iff] at g2
    obtain ⟨n, gn, ex⟩ := g2
    have r := f.2.2
    rw [← ex] at r
    obtain ⟨t, et⟩ := r
    refine ⟨t, ?_⟩
    rw [List.getD_eq_getElem?_getD, gn]
    exact et
  have la : a < s.heap.objs.size := Heap.lt_size lies
  refine call_max_walk (DSub.iter_vals hv lies c2 ?_)
  refine ⟨s.heap.objs.size, [s.heap.objs.size, a], [s.heap.objs.size], es.size, fun i v => ∃ t, v = .int (ns.getD i 0) t, _, fun i j => decide (ns.getD i 0 > ns.getD j 0), rfl, DSub.walksVal (a := a) (show X.A.in1.handled = none from I.ok.hd hc) (Nat.ne_of_lt la) c2 val, ⟨Heap.get?_push_size _ rfl, Heap.get?_push_of_some _ lies⟩, fun b hb => ?_, by omega, CmpOf.ints_gt (fun i => ns.getD i 0) (fun i v z => z), fun v h2 tk is_ keep => ?_⟩
  · show b < (s.heap.push _).objs.size
    rw [Heap.size_push]
    rcases List.mem_cons.mp hb with e | e
    · exact e ▸ Nat.lt_succ_self _
    · exact List.mem_singleton.mp e ▸ Nat.lt_succ_of_lt la
  · obtain ⟨t, rfl⟩ := is_
    obtain ⟨b1, b2⟩ := argBest_gt (fun i => ns.getD i 0) (es.size - 1)
    refine ⟨.int _, H, I.kept (t' := tk) fun b u g => keep b u (fun m => ?_) (Heap.get?_push_of_some _ g), ⟨t, rfl⟩, q _ ?_ fun y hy => ?_⟩
    · rw [List.mem_singleton.mp m] at g
      exact absurd (Heap.lt_size g) (Nat.lt_irrefl _)
    · have lb : argBest (fun i j => decide (ns.getD i 0 > ns.getD j 0)) (es.size - 1) ≤ es.size - 1 := b1
      exact PySem.getD_mem (by omega)
    · obtain ⟨j, lj, e⟩ := List.mem_iff_getElem.mp hy
      have top : ns.getD j 0 ≤ ns.getD (argBest (fun i j => decide (ns.getD i 0 > ns.getD j 0)) (es.size - 1)) 0 := b2 j (by omega)
      have g : ns.getD j 0 = y := by rw [List.getD_eq_getElem?_getD, List.getElem?_eq_getElem lj, ← e]; rfl
      rw [g] at top
      exact top
end
end Pot

namespace Pot
open L2 PySem PySem.Spec PyProof.Rows
/-! ### walking the values of a locked dict whose keys are tuples -/
def Itvt (d : Addr) (o : Obj) (kvs : List (List Key × V)) : It where
  go i H := H d = some (.frz o (.dT kvs)) ∧ i < kvs.length
  yld i H x H' := H' = H ∧ ∃ k, kvs[i]? = some (k, x)
  stop i H := H d = some (.frz o (.dT kvs)) ∧ kvs.length ≤ i
def iValsT (td : TE) : TI := fun σ H R => td σ H fun x H1 => ∃ (d : Addr) (o : Obj) (kvs : List (List Key × V)), x = .ref d ∧ H1 d = some (.frz o (.dT kvs)) ∧ R (Itvt d o kvs) H1
section
variable {X : Cx} {P : Program} {w : World} {K : PySem.W.Frag}
theorem frz_vals {pins : List (Addr × Obj)} {σ : L2.St} {H : Hp} {s : Shared} {d : Addr} {o : Obj} {kvs : List (List Key × V)} (I : Inv X pins σ H s) (h : H d = some (.frz o (.dT kvs))) : (d == sysModules) = false ∧ s.heap.get? d = some o ∧ o.ExactDict ∧ ∃ (es : Array DictEntry) (ep : Nat), o.data = .dict es ep ∧ es.size = kvs.length ∧ ∀ (i : Nat) (k : List Key) (v : V), kvs[i]? = some (k, v) → ∃ en : DictEntry, es[i]? = some en ∧ RelV v en.val := by
  have R := I.hok d _ h
  obtain ⟨at_, _, sys, xs, kt, ob, es, ep, lies, exact_, dat, ent, _⟩ := R
  have eo : o = ob := by rw [at_] at lies; exact Option.some.inj lies
  subst eo
  have n1 := size_of_entries ent
  have n2 := Paired.length kt
  refine ⟨sys, at_, exact_, es, ep, dat, by omega, fun i k v g => ?_⟩
  obtain ⟨b, gb, e1, e2, r⟩ := paired_get kt g
  have ge := entry_at ent i
  rw [gb] at ge
  exact ⟨_, ge, r⟩
theorem turn_valsT {tg : Expr} {d : Addr} {o : Obj} {es : Array DictEntry} {ep : Nat} {kvs : List (List Key × V)} (it : Addr) (ne : d ≠ it) (dat : o.data = .dict es ep) (sz : es.size = kvs.length) : Turn P w K tg (Itvt d o kvs) [it] it (fun i h => h.get? it = some (DVw.valOb d i kvs.length ep)) where
  mem := List.mem_cons_self
  obj := fun i h st b hb => by
    rw [List.mem_singleton.mp hb]
    exact ⟨_, st, fun v z => by cases z⟩
  keep := fun i h h' st k => k it List.mem_cons_self _ st
  item := by
    intro X eP ew eK calm0 i pn0 s sg0 H E I hf st hg
    subst eP ew eK
    obtain ⟨hd, hi⟩ := hg
    obtain ⟨f0, f1, f2, f3, f4, f5⟩ := hf it List.mem_cons_self
    obtain ⟨_, at_, _, es', ep', dat', sz', vals⟩ := frz_vals I hd
    have same : es' = es ∧ ep' = ep := by
      rw [dat] at dat'
      cases dat'
      exact ⟨rfl, rfl⟩
    obtain ⟨rfl, rfl⟩ := same
    obtain ⟨k, v⟩ : List Key × V := kvs[i]
    have gi : kvs[i]? = some kvs[i] := List.getElem?_eq_getElem hi
    obtain ⟨en, ge, rv⟩ := vals i kvs[i].1 kvs[i].2 gi
    refine DVw.val_item st at_ dat sz ge fun h' e1 sb => ?_
    have J1 : Inv X pn0 sg0 H { s with heap := h' } := I.turned (t' := s.toks) (fun b ob hb e => (sb.2 b hb).trans e) f0 f1 f3 f4 f5
    exact ⟨en.val, rfl, go_of (s := { s with heap := h' }) e1 rfl rfl (by decide) ⟨kvs[i].2, H, J1, rv, ⟨rfl, _, gi⟩, e1, fun b hb => (hf b hb).1⟩⟩
  done := by
    intro X eP ew eK calm0 i pn0 s sg0 H E I hf st hg
    subst eP ew eK
    obtain ⟨hd, hi⟩ := hg
    obtain ⟨f0, f1, f2, f3, f4, f5⟩ := hf it List.mem_cons_self
    obtain ⟨_, at_, _, es', ep', dat', sz', vals⟩ := frz_vals I hd
    have same : es' = es ∧ ep' = ep := by
      rw [dat] at dat'
      cases dat'
      exact ⟨rfl, rfl⟩
    obtain ⟨rfl, rfl⟩ := same
    refine DVw.val_end (I.ok.hd calm0) st at_ dat sz (by simp; omega) fun h' eb => ⟨rfl, ?_⟩
    exact I.turned (t' := s.toks) (fun b ob hb e => eb b ob hb e) f0 f1 f3 f4 f5
  self := fun A i s Q E st h => wpAny_pyIter_valiter (i := i) (n := kvs.length) (ep := ep) (d := d) ⟨_, st, rfl, rfl⟩ h
theorem pi_valuesT {tg e : Expr} {td : TE} {apos cpos : Pos} (he : PE X e td) (hbase : attributeBase e "values" X.env (eval e X.env) = eval e X.env := by rfl) (hline : (apos.endLine == cpos.line) = true := by rfl) : PI X tg (.Call (.Attribute e "values" apos) [] [] cpos) (iValsT td) := by
  refine ⟨fun pins s σ H R I h => wpAny_Call_method (T := "dict") (id := "dict.values") hbase rfl hline F.plainAttrs_dict F.slot_dict_values F.type_dict_values (thn (he.run pins s σ H _ I h) fun u s1 ⟨x, H1, I1, rx, d, o, kvs, ex, hd, q⟩ => ?_)⟩
  subst ex
  obtain rfl : u = .ref d := rx
  obtain ⟨sys, at_, exact_, es, ep, dat, sz, vals⟩ := frz_vals I1 hd
  have ty : s1.TypeIs (.ref d) "dict" := ⟨o, at_, exact_.1⟩
  refine ⟨ty, fun a e => ?_, ?_⟩
  · cases e
    exact ⟨o, at_, exact_.2.1⟩
  have I2 : Inv X pins σ H1 { s1 with heap := s1.heap.push (DSub.viewOb "dict_values" d) } := I1.kept (t' := s1.toks) fun b ob q => Heap.get?_push_of_some _ q
  have fin : wpAny (model X.prog X.w) X.A (pyIter (.ref s1.heap.objs.size)) (PIE X pins σ tg R) X.xe { s1 with heap := s1.heap.push (DSub.viewOb "dict_values" d) } := by
    refine DSub.iter_vals (Heap.get?_push_size _ rfl) (Heap.get?_push_of_some _ at_) dat ?_
    have ne : d ≠ (s1.heap.push (DSub.viewOb "dict_values" d)).objs.size := Nat.ne_of_lt (Heap.lt_size (Heap.get?_push_of_some _ at_))
    rw [sz]
    exact pi_one (tk := s1.toks) I2 _ (turn_valsT _ ne dat sz) (Heap.get?_push_size _ rfl) q
  show wpAny _ _ (callWith cpos (.builtin "dict.values") [Value.ref d] [] []) _ X.xe s1
  exact method_meetsIn F.slot_dict_values F.entry_dict_values rfl (PySem.evalArgs_none ⟨rfl, ty, F.args_dict_values_1 _, _, meets_dict_values_raw d sys, ⟨⟨es, ep, o, at_, exact_, dat⟩, fin⟩⟩)
theorem walk_valsT {d : Addr} {o : Obj} {kvs : List (List Key × V)} : Walk (Itvt d o kvs) kvs.length (fun H => H d = some (.frz o (.dT kvs))) (fun i H x H' => H' = H ∧ ∃ k, kvs[i]? = some (k, x)) :=
  ⟨fun _ _ li q => ⟨q, li⟩, fun _ q => ⟨q, Nat.le_refl _⟩, fun _ _ _ _ _ _ yl => yl⟩
end
end Pot

namespace Pot
open L2 PySem PySem.Spec PyProof.Rows
/-! ### xs.extend(ys), ys any list that is to be read -/
def rExtL (K : PySem.W.Frag) : V → List V → Hp → VK → Prop := fun x vs H Q => ∃ (l b : Addr) (xs zs : List V), x = .ref l ∧ vs = [.ref b] ∧ H l = some (.lst xs) ∧ SqL K H b zs ∧ xs.length + zs.length ≤ sizeLine ∧ Q .non (upd H l (.lst (xs ++ zs)))
theorem ext_any (l b : Addr) (us ws : Array Value) (n m : Nat) (sl : Array (Option Value)) (c0 : ¬(!us.isEmpty && Builtin.List.listTooLong (us.size + ws.size)) = true) (c1 : us.size ≤ sizeLine) (c2 : us.size + ws.size ≤ sizeLine + 1) :
    Meets (Builtin.«list.extend» ⟨[.ref l, .ref b], []⟩) (fun _ R s => s.heap.get? l = some { cls := .type "list", dict := none, data := .seq us n, slots := #[] } ∧ s.heap.get? b = some { cls := .type "list", dict := none, data := .seq ws m, slots := sl } ∧ R (.ok (.ret Value.none)) { s with heap := s.heap.update l (Obj.mapSeq fun x => x ++ ws), toks := s.toks }) :=
  .of_wp fun pr wo A R s h => by
    obtain ⟨hp0, gn0, dr0, tk0, os0⟩ := s
    obtain ⟨h1, h2, h⟩ := h
    have e1 := AutoSeq1.idx_int
    have e2 := AutoSeq1.sub_tuple_tuple
    have e3 := AutoSeq1.sub_list_list
    have e4 := AutoSeq1.sub_tuple_list
    have e5 := AutoSeq1.sub_list_tuple
    have sz : (us ++ ws).size ≤ sizeLine + 1 := by rw [Array.size_append]; exact c2
    wp_walk using (wpAny_updateSeq h1 rfl (hz := c1) (_hz' := sz)), AutoSeq1.wpAny_loadPart' h1, AutoSeq1.wpAny_loadPart' h2
    exact ⟨_, rfl, h⟩
section
variable {X : Cx} {K : PySem.W.Frag}
theorem mt_extL (h : X.K = K := by rfl) : MtM X "list.extend" (rExtL K) := by
  subst h
  intro pn0 s sg0 H x vs v us Q I rx rv hyp
  obtain ⟨l, b, xs, zs, rfl, rfl, inH, inB, lens, q⟩ := hyp
  cases rx
  obtain ⟨u, rfl, ru⟩ := rv.one
  cases ru
  obtain ⟨z, its, n, r, ln1, e⟩ := I.lstM inH
  obtain ⟨its2, r2, ⟨o2, n2, e2, k1, k2, k3⟩, hl2⟩ := I.list inB
  have l2 := r2.length
  obtain ⟨cl, di, da, sl⟩ := o2
  have k1 : cl = .type "list" := k1
  have k2 : di = none := k2
  have k3 : da = .seq its2.toArray n2 := k3
  subst k1 k2 k3
  have size : its.toArray.size + its2.toArray.size ≤ sizeLine := by simp only [List.size_toArray]; omega
  have short : ¬ (!its.toArray.isEmpty && Builtin.List.listTooLong (its.toArray.size + its2.toArray.size)) = true := fun w => by
    rw [notLongL size, Bool.and_false] at w
    cases w
  refine call_meets F.slot_list_extend ⟨_, e, rfl⟩ F.entry_list_extend (F.args_list_extend_2 _ _) (ext_any l b its.toArray its2.toArray n n2 sl short (by simp only [List.size_toArray]; omega) (Nat.le_succ_of_le size)) ⟨e, e2, ?_⟩
  refine ⟨V.non, _, I.lset (its' := its ++ its2) inH e (by simp) (r.append r2) ?_, rfl, q⟩
  simp only [List.length_append]
  omega
end
end Pot

namespace Pot
open PySem PySem.Spec PyProof.Rows L2
/-! ### calls by names alone -/
section
variable {X : Cx} {CX : CXT} {k : Nat} {f : Addr} {fd : FuncData} {ps ks : List Str} {sp : Sp} {E : XK} {x : Str} {p pos : Pos} {kws : List Keyword} {tk : TA} {g : List Value → List Value → List Value} {gV : List V → List V → List V}
theorem pe_callK0 (F : FnOk X.prog X.w X.K X.mg X.base CX k f fd ps sp) (hr : Room k X.A) (hg : Gl X x) (hm : X.mg x = some (.ref f)) (hk : PySem.W.keepIn X.K (.ref f) = true) (hb : KBinds X.K fd ps ks g gV) (hx : Passes CX X E)
    (hkw : PK X kws tk) (hall : (backToKw pos (keywordEach kws X.env)).all (·.1.isSome) = true := by rfl) (hks : (backToKw pos (keywordEach kws X.env)).filterMap (·.1) = ks := by rfl)
    (hdb : (x == ("__debug__" : Str)) = false := by decide)
    (hpl : ((backTo pos (starEach [] X.env)).any (·.1) || (backToKw pos (keywordEach kws X.env)).any (·.1.isNone)) = false := by rfl) :
    PE X (.Call (.Name x p) [] kws pos) (tCallK sp gV E tNil tk) := by
  refine ⟨fun pins s σ H Q I h => ?_⟩
  refine wpAny_Call_Name_kw (ld_glob I hg hm ?_ hdb)
  refine PySem.W.callWith_KW0 (h₀ := X.base) I.ok.mod.kin hk hall (thn (hkw.run pos pins s σ H _ I h) fun ws s2 ⟨zs, H2, I2, rz, q2⟩ => ⟨I2.kIn, ?_⟩) hpl
  rw [hks]
  exact run_fnk F hr hb hx I2 .nil rz q2
end
def ClK (P : Program) (w : World) (K : PySem.W.Frag) (mg : Str → Option Value) (base : Heap) (k : Nat) (x : Str) (ks : List Str) (gV : List V → List V → List V) (sp : Sp) : Prop :=
  ∃ (f : Addr) (fd : FuncData) (ps : List Str) (g : List Value → List Value → List Value), FnOk P w K mg base CX0 k f fd ps sp ∧ mg x = some (.ref f) ∧ PySem.W.keepIn K (.ref f) = true ∧ KBinds K fd ps ks g gV
theorem pe_ck {X : Cx} {k j : Nat} {x : Str} {ks : List Str} {gV : List V → List V → List V} {sp : Sp} {kws : List Keyword} {t : TA} {p pos : Pos} (c : ClK X.prog X.w X.K X.mg X.base k x ks gV sp) (hr : Room j X.A) (hk : k ≤ j) (hg : Gl X x) (ha : PK X kws t)
    (hall : (backToKw pos (keywordEach kws X.env)).all (·.1.isSome) = true := by rfl) (hks : (backToKw pos (keywordEach kws X.env)).filterMap (·.1) = ks := by rfl) (hdb : (x == ("__debug__" : Str)) = false := by decide)
    (hpl : ((backTo pos (starEach [] X.env)).any (·.1) || (backToKw pos (keywordEach kws X.env)).any (·.1.isNone)) = false := by rfl) : PE X (.Call (.Name x p) [] kws pos) (tCallK sp gV E0 tNil t) := by
  obtain ⟨f, fd, ps, g, G, hm, kp, b⟩ := c
  exact pe_callK0 G (hr.mono hk) hg hm kp b pass0 ha hall hks hdb hpl
/-- three, handed in from the last to the first -/
def rev3 {α : Type} : List α → List α → List α
  | [], [a, b, c] => [c, b, a]
  | _, _ => []
theorem kb_rev3 {K : PySem.W.Frag} {x qual : Str} {st : Stmt} {f : Addr} {fd : FuncData} {k1 k2 k3 : Str} (F : Fun K x qual st f fd)
    (h : ∀ (kV doc pm : Value) (an : Option Addr) (cdv ct a b c : Value), bindArgs (PySem.W.fnOf x qual (defArgs st) (defBody st) (defScope st) .none kV doc pm an cdv ct) ⟨[], [(k3, a), (k2, b), (k1, c)]⟩ = pure [(k1, c), (k2, b), (k3, a)]) : KBinds K fd [k1, k2, k3] [k3, k2, k1] rev3 rev3 := by
  obtain ⟨oc, od, kV, doc, pm, an, cdv, ct, osl, rfl, lk, hcd⟩ := F.ex
  refine ⟨fun s us ws _ hl => ?_, fun {vs us zs ws} r rz => ?_⟩
  · match us, ws, hl with
    | [], [a, b, c], _ => exact .of_eq (h kV doc pm an cdv ct a b c)
    | [], [], hl => cases hl
    | [], [_], hl => cases hl
    | [], [_, _], hl => cases hl
    | [], _ :: _ :: _ :: _ :: _, hl => cases hl
    | _ :: _, _, hl => cases hl
  · cases r with
    | nil =>
      cases rz with
      | nil => exact .nil
      | cons a rz =>
        cases rz with
        | nil => exact .nil
        | cons b rz =>
          cases rz with
          | nil => exact .nil
          | cons c rz =>
            cases rz with
            | nil => exact .cons c (.cons b (.cons a .nil))
            | cons _ _ => exact .nil
    | cons _ _ => exact .nil
/-- four, from the last to the first, of a def with defaults -/
def rev4 {α : Type} : List α → List α → List α
  | [], [a, b, c, d] => [d, c, b, a]
  | _, _ => []
theorem kb_rev4D {K : PySem.W.Frag} {x : Str} {st : Stmt} {dvs : List V} {f : Addr} {fd : FuncData} {k1 k2 k3 k4 : Str} (F : FunV K x st dvs f fd) (hd : dvs ≠ [])
    (h : ∀ (T : Addr) (kV doc pm : Value) (an : Option Addr) (cdv ct a b c d : Value) (its : List Value), its.length = dvs.length → ∃ k, bindArgs (PySem.W.fnOf x x (defArgs st) (defBody st) (defScope st) (.ref T) kV doc pm an cdv ct) ⟨[], [(k4, a), (k3, b), (k2, c), (k1, d)]⟩ = seqItems? (.ref T) >>= k ∧ k (some its.toArray) = pure [(k1, d), (k2, c), (k3, b), (k4, a)]) : KBinds K fd [k1, k2, k3, k4] [k4, k3, k2, k1] rev4 rev4 := by
  obtain ⟨oc, od, dV, kV, doc, pm, an, cdv, ct, osl, rfl, lk, hcd, hD, hK⟩ := F.ex
  refine ⟨fun s us ws X hl => ?_, fun {vs us zs ws} r rz => ?_⟩
  · rcases hD with ⟨e, _⟩ | ⟨_, T, o, its, m, rfl, lT, oT, rT⟩
    · exact absurd e hd
    · match us, ws, hl with
      | [], [a, b, c, d], _ =>
        obtain ⟨k, e1, e2⟩ := h T kV doc pm an cdv ct a b c d its rT.length.symm
        refine BindsTo.of_looks fun M => ?_
        show PySem.W.Looks M s.heap (bindArgs _ ⟨[], [(k4, a), (k3, b), (k2, c), (k1, d)]⟩) _
        rw [e1]
        exact looks_items X lT oT (.of_pure e2)
      | [], [], hl => cases hl
      | [], [_], hl => cases hl
      | [], [_, _], hl => cases hl
      | [], [_, _, _], hl => cases hl
      | [], _ :: _ :: _ :: _ :: _ :: _, hl => cases hl
      | _ :: _, _, hl => cases hl
  · cases r with
    | nil =>
      cases rz with
      | nil => exact .nil
      | cons a rz =>
        cases rz with
        | nil => exact .nil
        | cons b rz =>
          cases rz with
          | nil => exact .nil
          | cons c rz =>
            cases rz with
            | nil => exact .nil
            | cons d rz =>
              cases rz with
              | nil => exact .cons d (.cons c (.cons b (.cons a .nil)))
              | cons _ _ => exact .nil
    | cons _ _ => exact .nil
/-! ### a list or a tuple walked -/
def iAnyS (K : PySem.W.Frag) (tl : TE) : TI := fun σ H R => iList K tl σ H R ∨ iTup K tl σ H R
theorem ki_anyS {X : Cx} {K : PySem.W.Frag} {tg l : Expr} {tl : TE} (hl : PE X l tl) (h : X.K = K := by rfl) : PI X tg l (iAnyS K tl) :=
  ⟨fun pins s σ H R I z => z.elim (fun z => (ki_list hl h).run pins s σ H R I z) (fun z => (ki_tup hl h).run pins s σ H R I z)⟩
end Pot

namespace Pot
open PySem PySem.Spec PyProof.Rows L2
def topS (i : Nat) : Stmt := PySem.Challenge.pw_potround_k41_teams_at_pots.main.body.getD i (.Pass ⟨0, 0, 0, 0⟩)
section
variable {P : Program} {w : World} {K : PySem.W.Frag} {mg : Str → Option Value} {base : Heap}
abbrev s__law_take : Stmt := topS 18
def n__law_take : List Str := ["_law_box_here", "_law_many", "_law_found", "_law_mixed"]
theorem sc__law_take : FnScope n__law_take ["_law_box_here", "_law_many"] (defScope s__law_take) := ⟨rfl, rfl, rfl, by decide +kernel, rfl, by decide +kernel, by decide +kernel⟩
/-! ### _law_take -/
def spTake : Sp := fun vs H Q _ => ∃ (b : Addr) (m : Int) (n : Nat), vs = [.ref b, .int m] ∧ 0 < m ∧ m < 1073741824 ∧ Bp H b n ∧ n < 2 ^ 40 ∧
  ∀ H' r, 0 ≤ r → r < m → Bp H' b (n + 1) → Sm [b] H H' → Q (.int r) H'
theorem ok_take {f : Addr} {fd : FuncData} {k : Nat} (F : Fun K "_law_take" "_law_take" s__law_take f fd) : FnOk P w K mg base CX0 (k + 1) f fd ["_law_box_here", "_law_many"] spTake := by
  refine F.ok sc__law_take (fun vs H Q E h => ?_) (fun cdv A outer s H vs Q E hr h => ?_)
  · obtain ⟨b, m, n, rfl, _⟩ := h
    rfl
  · obtain ⟨b, m, n, rfl, hm0, hm1, ⟨x, y, z, B, z0, zn, y0, y1⟩, hn, q⟩ := h
    have nd := sc__law_take.nd
    refine ⟨_, (pss_cons (ps_if (pt_cmpR op_gt (pe_ix (kx_list (K := K)) (pv 0) pe_int (fun _ _ => rfl)) pe_int (nomark _))
          (pss_cons (ps_set (i := 2) nd rfl (.inl rfl) (pe_op op_mod (pe_ix (kx_list (K := K)) (pv 0) pe_int (fun _ _ => rfl)) (pv 1)))
          (pss_cons (ps_asg (pe_op op_fdiv (pe_ix (kx_list (K := K)) (pv 0) pe_int (fun _ _ => rfl)) (pv 1)) (pg_sub (pv 0) pe_int set_list))
          (pss_one (ps_ret (pv 2)))))
          pss_nil)
      (pss_cons (ps_asg (pe_op op_add (pe_ix (kx_list (K := K)) (pv 0) pe_int (fun _ _ => rfl)) pe_int) (pg_sub (pv 0) pe_int set_list))
      (pss_cons (ps_set (i := 3) nd rfl (.inl rfl) (pe_op op_mod (pe_op op_add (pe_ix (kx_list (K := K)) (pv 0) pe_int (fun _ _ => rfl)) (pe_op op_mul pe_int (pe_ix (kx_list (K := K)) (pv 0) pe_int (fun _ _ => rfl)))) pe_int))
      (pss_cons (ps_set (i := 3) nd rfl (.inl rfl) (pe_op op_mod (pe_op op_add (pe_op op_add (pe_op op_mul (pv 3) (pv 3)) (pe_op op_mul pe_int (pe_ix (kx_list (K := K)) (pv 0) pe_int (fun _ _ => rfl)))) pe_int) pe_int))
      (pss_cons (ps_set (i := 3) nd rfl (.inl rfl) (pe_op op_mod (pe_op op_add (pe_op op_mul (pv 3) (pe_op op_add (pe_op op_fdiv (pv 3) pe_int) pe_int)) (pe_ix (kx_list (K := K)) (pv 0) pe_int (fun _ _ => rfl))) pe_int))
      (pss_one (ps_ret (pe_op op_mod (pe_op op_fdiv (pv 3) pe_int) (pv 1))))))))), ?_⟩
    refine ⟨_, rfl, b, _, 0, .int x, rfl, rfl, SqL.of B, rfl, _, _, rfl, rfl, _, rfl, ite2 (fun hb => ?_) (fun hb => ?_)⟩
    · refine ⟨_, rfl, b, _, 0, .int x, rfl, rfl, SqL.of B, rfl, _, rfl, _, _, rfl, rfl, hm0, ?_⟩
      refine ⟨_, rfl, b, _, 0, .int x, rfl, rfl, SqL.of B, rfl, _, rfl, _, _, rfl, rfl, ⟨hm0, hm1⟩, _, rfl, b, _, 0, 0, rfl, rfl, B, rfl, ?_⟩
      refine ⟨_, rfl, q _ _ (Int.emod_nonneg _ (by omega)) (Int.emod_lt_of_pos _ hm0) ⟨_, _, _, upd_same, z0, by omega, y0, y1⟩ (sm_wr List.mem_cons_self)⟩
    · refine ⟨_, rfl, b, _, 2, .int z, rfl, rfl, SqL.of B, rfl, _, _, rfl, rfl, _, rfl, b, _, 2, 2, rfl, rfl, B, rfl, ?_⟩
      have B2 : upd H b (.lst [.int x, .int y, .int (z + 1)]) b = some (.lst [.int x, .int y, .int (z + 1)]) := upd_same
      have s2 : Sm [b] H (upd H b (.lst [.int x, .int y, .int (z + 1)])) := sm_wr List.mem_cons_self
      show tSeq _ _ _ _ (upd H b (.lst [.int x, .int y, .int (z + 1)]))
      generalize upd H b (.lst [.int x, .int y, .int (z + 1)]) = H2 at B2 s2 ⊢
      refine ⟨_, rfl, b, _, 1, .int y, rfl, rfl, SqL.of B2, rfl, _, rfl, b, _, 2, .int (z + 1), rfl, rfl, SqL.of B2, rfl, _, _, rfl, rfl, .inl ⟨by decide, by decide⟩, _, _, rfl, rfl, _, _, rfl, rfl, (by show (0 : Int) < 2305843009213693951; decide), ?_⟩
      have u0 := Int.emod_nonneg (y + 1442695040888963407 * (z + 1)) (show (2305843009213693951 : Int) ≠ 0 by decide)
      have u1 := Int.emod_lt_of_pos (y + 1442695040888963407 * (z + 1)) (show (0 : Int) < 2305843009213693951 by decide)
      generalize (y + 1442695040888963407 * (z + 1)) % 2305843009213693951 = u at u0 u1 ⊢
      refine ⟨_, rfl, _, rfl, _, _, rfl, rfl, .inl ⟨by omega, by omega⟩, _, rfl, b, _, 2, .int (z + 1), rfl, rfl, SqL.of B2, rfl, _, _, rfl, rfl, .inl ⟨by decide, by decide⟩, _, _, rfl, rfl, _, _, rfl, rfl, _, _, rfl, rfl, (by show (0 : Int) < 2305843009213693921; decide), ?_⟩
      have v0 := Int.emod_nonneg (u * u + 39373 * (z + 1) + 7) (show (2305843009213693921 : Int) ≠ 0 by decide)
      have v1 := Int.emod_lt_of_pos (u * u + 39373 * (z + 1) + 7) (show (0 : Int) < 2305843009213693921 by decide)
      generalize (u * u + 39373 * (z + 1) + 7) % 2305843009213693921 = v at v0 v1 ⊢
      refine ⟨_, rfl, _, rfl, _, _, rfl, rfl, ⟨by decide, by decide⟩, _, _, rfl, rfl, _, _, rfl, rfl, .inl ⟨by omega, by omega⟩, _, rfl, b, _, 2, .int (z + 1), rfl, rfl, SqL.of B2, rfl, _, _, rfl, rfl, _, _, rfl, rfl, (by show (0 : Int) < 2305843009213693907; decide), ?_⟩
      refine ⟨_, rfl, _, _, rfl, rfl, ⟨by decide, by decide⟩, _, rfl, _, _, rfl, rfl, hm0, ?_⟩
      exact q _ _ (Int.emod_nonneg _ (by omega)) (Int.emod_lt_of_pos _ hm0) ⟨_, _, _, B2, by omega, by omega, y0, y1⟩ s2

theorem cmul_abs (i : Int) (b : Bool) : CMul i (if b = true then 1 else 0) := .inr (by cases b <;> decide)
abbrev s__law_box : Stmt := topS 17
def n__law_box : List Str := ["_law_cells_here", "_law_k", "_law_cell"]
theorem sc__law_box : FnScope n__law_box ["_law_cells_here", "_law_k"] (defScope s__law_box) := ⟨rfl, rfl, rfl, by decide +kernel, rfl, by decide +kernel, by decide +kernel⟩
def spBox (K : PySem.W.Frag) : Sp := fun vs H Q _ => ∃ (c : Addr) (ns : List Int) (i : Nat), vs = [.ref c, .int (i : Nat)] ∧ SqL K H c (ns.map V.int) ∧ i < ns.length ∧ i < 1000 ∧
  ∀ H' p, Same H H' → H p = none → Bp H' p 0 → Q (.ref p) H'
theorem ok_box {f : Addr} {fd : FuncData} {k : Nat} (F : Fun K "_law_box" "_law_box" s__law_box f fd) (T : Txt mg) : FnOk P w K mg base CX0 (k + 1) f fd ["_law_cells_here", "_law_k"] (spBox K) := by
  refine F.ok sc__law_box (fun vs H Q E h => ?_) (fun cdv A outer s H vs Q E hr h => ?_)
  · obtain ⟨c, ns, i, rfl, _⟩ := h
    rfl
  · obtain ⟨c, ns, i, rfl, hS, hi, hi1, q⟩ := h
    have nd := sc__law_box.nd
    have e : (ns.map V.int)[i]? = some (.int ns[i]) := by rw [List.getElem?_map, List.getElem?_eq_getElem hi]; rfl
    refine ⟨_, (pss_cons (ps_set (i := 2) nd rfl (.inl rfl) (pe_ix (kx_list (K := K)) (pv 0) (pv 1) (fun _ _ => rfl)))
      (pss_one (ps_ret (pe_lst (pa_cons (pe_op op_mul (pe_callB call_abs (by rfl) T.abs (by decide +kernel) (pa_cons (pv 2) pa_nil)) (pe_callTy call_int1 (by rfl) T.int (by decide +kernel) (pa_cons (pe_cmpR op_ge (pe_callB call_abs (by rfl) T.abs (by decide +kernel) (pa_cons (pv 2) pa_nil)) (pe_op op_pow pe_int pe_int) (nomark _)) pa_nil))) (pa_cons (pe_op op_add (pe_op op_add (pe_op op_mod (pv 2) pe_int) (pe_op op_mul pe_int (pv 1))) pe_int) (pa_cons pe_int pa_nil))))))), ?_⟩
    refine ⟨_, rfl, _, rfl, c, _, _, _, rfl, rfl, hS, atI_nat e, ?_⟩
    refine ⟨_, rfl, _, rfl, _, rfl, _, rfl, _, _, rfl, rfl, ⟨by decide, by decide, by decide⟩, _, _, rfl, rfl, .inr ⟨_, rfl, _, _, rfl, rfl, cmul_abs _ _, ?_⟩⟩
    refine ⟨_, rfl, _, _, rfl, rfl, (by show (0 : Int) < 2305843009213693951; decide), _, rfl, _, _, rfl, rfl, .inl ⟨by decide, by decide⟩, _, _, rfl, rfl, _, _, rfl, rfl, (by show 3 ≤ sizeLine; decide), fun p hp => ?_⟩
    have m0 : 0 ≤ ns[i] % 2305843009213693951 := Int.emod_nonneg _ (by decide)
    have m1 : ns[i] % 2305843009213693951 < 2305843009213693951 := Int.emod_lt_of_pos _ (by decide)
    exact q _ p (same_upd hp) hp ⟨_, _, _, upd_same, Int.le_refl _, Int.le_refl _, by omega, by omega⟩

abbrev s__law_cells : Stmt := topS 19
def n__law_cells : List Str := ["_law_script", "_law_most", "_law_cells_here", "_law_k", "_law_cell"]
theorem sc__law_cells : FnScope n__law_cells ["_law_script", "_law_most"] (defScope s__law_cells) := ⟨rfl, rfl, rfl, by decide +kernel, rfl, by decide +kernel, by decide +kernel⟩
def spCells (K : PySem.W.Frag) : Sp := fun vs H Q _ => ∃ (a : Addr) (ns : List Int), vs = [.ref a, .int 2] ∧ SqL K H a (ns.map V.int) ∧ ns.length ≤ 63 ∧
  ∀ (H' : Hp) (p : Addr) (ms : List Int), Same H H' → H p = none → H' p = some (.lst (ms.map V.int)) → 1 ≤ ms.length → ms.length ≤ 2 → Q (.ref p) H'
theorem ok_cells {f : Addr} {fd : FuncData} {k : Nat} (F : Fun K "_law_cells" "_law_cells" s__law_cells f fd) (T : Txt mg) : FnOk P w K mg base CX0 (k + 1) f fd ["_law_script", "_law_most"] (spCells K) := by
  refine F.ok sc__law_cells (fun vs H Q E h => ?_) (fun cdv A outer s H vs Q E hr h => ?_)
  · obtain ⟨a, ns, rfl, _⟩ := h
    rfl
  · obtain ⟨a, ns, rfl, hS, h63, q⟩ := h
    have nd := sc__law_cells.nd
    refine ⟨_, (pss_cons (ps_set (i := 2) nd rfl (.inl rfl) (pe_orT (pe_callTy (kc_list (K := K)) (by rfl) T.list (by decide +kernel) (pa_cons (pe_slice (kl_list (K := K)) (pv 0) po_none (po_some (pv 1))) pa_nil)) (pe_one (pe_lst (pa_cons pe_int pa_nil)))))
      (pss_cons (ps_for PassesOwn.never rfl (ki_enum (K := K) (by rfl) T.enumerate (pa_cons (pe_slice (kl_list (K := K)) (pv 0) (po_some (pv 1)) (po_some pe_int)) pa_nil)) (kg_tup (K := K) (n := 2) (pgs_cons (pg_name (i := 3) nd rfl (.inl rfl)) (pgs_cons (pg_name (i := 4) nd rfl (.inl rfl)) pgs_nil)))
          (pss_one (ps_asg (pe_op op_add (pe_ix (kx_list (K := K)) (pv 2) (pe_op op_mod (pv 3) (pv 1)) (fun _ _ => rfl)) (pe_op op_mul (pv 4) (pe_op op_add (pv 3) pe_int))) (pg_sub (pv 2) (pe_op op_mod (pv 3) (pv 1)) set_list))))
      (pss_one (ps_ret (pv 2))))), ?_⟩
    refine ⟨_, rfl, _, rfl, 2, rfl, a, _, rfl, hS, fun p1 n1 => ?_⟩
    rw [show cutV (ns.map V.int) none (some 2) = (ns.take 2).map V.int by rw [show (2 : Int) = ((2 : Nat) : Int) from rfl, cut_head, List.map_take]]
    refine ⟨p1, _, rfl, .inl (SqL.of upd_same), fun p np => ?_⟩
    have s1 : Same H (upd (upd H p1 (.lst ((ns.take 2).map V.int))) p (.lst ((ns.take 2).map V.int))) := (same_upd n1).trans (same_upd np)
    have np0 : H p = none := (same_upd n1).free np
    have hp : upd (upd H p1 (.lst ((ns.take 2).map V.int))) p (.lst ((ns.take 2).map V.int)) p = some (.lst ((ns.take 2).map V.int)) := upd_same
    generalize upd (upd H p1 (.lst ((ns.take 2).map V.int))) p (.lst ((ns.take 2).map V.int)) = H1 at s1 hp ⊢
    by_cases hn : ns = []
    · refine ⟨false, .inl ⟨_, SqL.of hp, by rw [hn]; rfl⟩, ?_⟩
      rw [if_neg (by decide)]
      refine ⟨(by show 1 ≤ sizeLine; decide), fun c nc => ?_⟩
      have s2 := s1.trans (same_upd (o := .lst [.int 0]) nc)
      have nc := s1.free nc
      obtain ⟨ms, hc, l1, l2, l3⟩ : ∃ ms : List Int, upd H1 c (.lst [.int 0]) c = some (.lst (ms.map V.int)) ∧ 1 ≤ ms.length ∧ ms.length ≤ 2 ∧ (2 < ns.length → ms.length = 2) := ⟨[0], upd_same, by decide, by decide, fun h => by rw [hn] at h; simp at h⟩
      generalize upd H1 c (.lst [.int 0]) = H2 at s2 hc ⊢
      refine ⟨_, rfl, _, rfl, 2, rfl, 63, rfl, a, _, rfl, s2.seq hS, fun e ne => ?_⟩
      have ee : upd H2 e (.lst (cutV (ns.map V.int) (some 2) (some 63))) e = some (.lst (cutV (ns.map V.int) (some 2) (some 63))) := upd_same
      have s3 := same_upd (o := .lst (cutV (ns.map V.int) (some 2) (some 63))) ne
      have ce : c ≠ e := ne_of_none hc ne
      have hc := s3 _ _ hc
      have s2 := s2.trans s3
      generalize upd H2 e (.lst (cutV (ns.map V.int) (some 2) (some 63))) = H3 at ee s2 hc ⊢
      rw [cut_map] at ee
      have lcut : ((ns.drop (HT.sIx ns.length 0 (some 2))).take (HT.sIx ns.length ns.length (some 63) - HT.sIx ns.length 0 (some 2))).length ≤ ns.length - 2 := by
        rw [show HT.sIx ns.length 0 (some 2) = min 2 ns.length from HT.sIx_nat _ _ 2, List.length_take, List.length_drop]
        omega
      generalize (ns.drop (HT.sIx ns.length 0 (some 2))).take (HT.sIx ns.length ns.length (some 63) - HT.sIx ns.length 0 (some 2)) = es at ee lcut
      refine ⟨e, _, rfl, SqL.of ee, ?_⟩
      refine for_it (walk_enum (xs := es.map V.int)) (fun i σ H4 => ∃ v3 v4 ms, σ = [some (.ref a), some (.int 2), some (.ref c), v3, v4] ∧ Same H H4 ∧ H4 e = some (.lst (es.map V.int)) ∧ H4 c = some (.lst (ms.map V.int)) ∧ 1 ≤ ms.length ∧ ms.length ≤ 2 ∧ (2 < ns.length → ms.length = 2))
        ⟨none, none, ms, rfl, s2, ee, hc, l1, l2, l3⟩ (fun i σ H4 _ h => by obtain ⟨_, _, _, _, _, h, _⟩ := h; exact SqL.of h) ?_ ?_
      · rintro i x σ H4 H5 hi ⟨v3, v4, ms, rfl, s4, e4, c4, l1, l2, l3⟩ ⟨t, x1, x2, rfl, nt, rfl, g1, g2⟩
        cases g1
        replace g2 : (es.map V.int)[i]? = some x2 := g2
        rw [List.getElem?_map] at g2
        obtain ⟨y, gy, rfl⟩ := Option.map_eq_some_iff.mp g2
        rw [List.length_map] at hi
        have lm : ms.length = 2 := l3 (by omega)
        have s5 := same_upd (o := .tup [.int (i : Nat), .int y]) nt
        refine ⟨t, _, rfl, .inl (.inl upd_same), rfl, _, _, rfl, _, _, rfl, rfl, ?_⟩
        have e5 := s5 _ _ e4
        have c5 := s5 _ _ c4
        have s5 := s4.trans s5
        generalize upd H4 t (.tup [.int (i : Nat), .int y]) = H6 at e5 c5 s5 ⊢
        have em : ((i : Nat) : Int) % 2 = ((i % 2 : Nat) : Int) := by omega
        have lt : i % 2 < ms.length := by omega
        have ga : (ms.map V.int)[i % 2]? = some (.int ms[i % 2]) := by rw [List.getElem?_map, List.getElem?_eq_getElem lt]; rfl
        refine ⟨_, rfl, _, rfl, _, rfl, _, _, rfl, rfl, (by show (0 : Int) < 2; decide), c, _, _, _, rfl, rfl, SqL.of c5, (by rw [em]; exact atI_nat ga), ?_⟩
        refine ⟨_, rfl, _, rfl, _, _, rfl, rfl, _, _, rfl, rfl, .inr ⟨by omega, by omega⟩, _, _, rfl, rfl, ?_⟩
        refine ⟨_, rfl, _, rfl, _, rfl, _, _, rfl, rfl, (by show (0 : Int) < 2; decide), c, _, _, i % 2, rfl, rfl, c5, (by rw [em, List.length_map]; exact Evl.ixN_nat lt), ?_⟩
        refine ⟨_, _, ms.set (i % 2) (ms[i % 2] + y * ((i : Nat) + 2)), rfl, same_put s5 nc, (by rw [upd_ne ce.symm]; exact e5), (by rw [upd_same, List.map_set]), ?_, ?_, ?_⟩
        · rw [List.length_set]; exact l1
        · rw [List.length_set]; exact l2
        · rw [List.length_set]; exact l3
      · rintro σ H4 ⟨v3, v4, ms, rfl, s4, e4, c4, l1, l2, l3⟩
        exact ⟨_, rfl, q _ c ms s4 nc c4 l1 l2⟩
    · have lpos : 0 < ns.length := List.length_pos_iff.mpr hn
      refine ⟨true, .inl ⟨_, SqL.of hp, by cases ns with | nil => exact absurd rfl hn | cons _ _ => rfl⟩, ?_⟩
      rw [if_pos rfl]
      have s2 := s1
      have nc := np0
      obtain ⟨c, ec⟩ : ∃ c, c = p := ⟨p, rfl⟩
      rw [← ec] at hp nc ⊢
      obtain ⟨ms, hc, l1, l2, l3⟩ : ∃ ms : List Int, H1 c = some (.lst (ms.map V.int)) ∧ 1 ≤ ms.length ∧ ms.length ≤ 2 ∧ (2 < ns.length → ms.length = 2) := ⟨ns.take 2, hp, by rw [List.length_take]; omega, by rw [List.length_take]; omega, fun h => by rw [List.length_take]; omega⟩
      obtain ⟨H2, eH⟩ : ∃ H2, H2 = H1 := ⟨H1, rfl⟩
      rw [← eH] at s2 hc ⊢
      refine ⟨_, rfl, _, rfl, 2, rfl, 63, rfl, a, _, rfl, s2.seq hS, fun e ne => ?_⟩
      have ee : upd H2 e (.lst (cutV (ns.map V.int) (some 2) (some 63))) e = some (.lst (cutV (ns.map V.int) (some 2) (some 63))) := upd_same
      have s3 := same_upd (o := .lst (cutV (ns.map V.int) (some 2) (some 63))) ne
      have ce : c ≠ e := ne_of_none hc ne
      have hc := s3 _ _ hc
      have s2 := s2.trans s3
      generalize upd H2 e (.lst (cutV (ns.map V.int) (some 2) (some 63))) = H3 at ee s2 hc ⊢
      rw [cut_map] at ee
      have lcut : ((ns.drop (HT.sIx ns.length 0 (some 2))).take (HT.sIx ns.length ns.length (some 63) - HT.sIx ns.length 0 (some 2))).length ≤ ns.length - 2 := by
        rw [show HT.sIx ns.length 0 (some 2) = min 2 ns.length from HT.sIx_nat _ _ 2, List.length_take, List.length_drop]
        omega
      generalize (ns.drop (HT.sIx ns.length 0 (some 2))).take (HT.sIx ns.length ns.length (some 63) - HT.sIx ns.length 0 (some 2)) = es at ee lcut
      refine ⟨e, _, rfl, SqL.of ee, ?_⟩
      refine for_it (walk_enum (xs := es.map V.int)) (fun i σ H4 => ∃ v3 v4 ms, σ = [some (.ref a), some (.int 2), some (.ref c), v3, v4] ∧ Same H H4 ∧ H4 e = some (.lst (es.map V.int)) ∧ H4 c = some (.lst (ms.map V.int)) ∧ 1 ≤ ms.length ∧ ms.length ≤ 2 ∧ (2 < ns.length → ms.length = 2))
        ⟨none, none, ms, rfl, s2, ee, hc, l1, l2, l3⟩ (fun i σ H4 _ h => by obtain ⟨_, _, _, _, _, h, _⟩ := h; exact SqL.of h) ?_ ?_
      · rintro i x σ H4 H5 hi ⟨v3, v4, ms, rfl, s4, e4, c4, l1, l2, l3⟩ ⟨t, x1, x2, rfl, nt, rfl, g1, g2⟩
        cases g1
        replace g2 : (es.map V.int)[i]? = some x2 := g2
        rw [List.getElem?_map] at g2
        obtain ⟨y, gy, rfl⟩ := Option.map_eq_some_iff.mp g2
        rw [List.length_map] at hi
        have lm : ms.length = 2 := l3 (by omega)
        have s5 := same_upd (o := .tup [.int (i : Nat), .int y]) nt
        refine ⟨t, _, rfl, .inl (.inl upd_same), rfl, _, _, rfl, _, _, rfl, rfl, ?_⟩
        have e5 := s5 _ _ e4
        have c5 := s5 _ _ c4
        have s5 := s4.trans s5
        generalize upd H4 t (.tup [.int (i : Nat), .int y]) = H6 at e5 c5 s5 ⊢
        have em : ((i : Nat) : Int) % 2 = ((i % 2 : Nat) : Int) := by omega
        have lt : i % 2 < ms.length := by omega
        have ga : (ms.map V.int)[i % 2]? = some (.int ms[i % 2]) := by rw [List.getElem?_map, List.getElem?_eq_getElem lt]; rfl
        refine ⟨_, rfl, _, rfl, _, rfl, _, _, rfl, rfl, (by show (0 : Int) < 2; decide), c, _, _, _, rfl, rfl, SqL.of c5, (by rw [em]; exact atI_nat ga), ?_⟩
        refine ⟨_, rfl, _, rfl, _, _, rfl, rfl, _, _, rfl, rfl, .inr ⟨by omega, by omega⟩, _, _, rfl, rfl, ?_⟩
        refine ⟨_, rfl, _, rfl, _, rfl, _, _, rfl, rfl, (by show (0 : Int) < 2; decide), c, _, _, i % 2, rfl, rfl, c5, (by rw [em, List.length_map]; exact Evl.ixN_nat lt), ?_⟩
        refine ⟨_, _, ms.set (i % 2) (ms[i % 2] + y * ((i : Nat) + 2)), rfl, same_put s5 nc, (by rw [upd_ne ce.symm]; exact e5), (by rw [upd_same, List.map_set]), ?_, ?_, ?_⟩
        · rw [List.length_set]; exact l1
        · rw [List.length_set]; exact l2
        · rw [List.length_set]; exact l3
      · rintro σ H4 ⟨v3, v4, ms, rfl, s4, e4, c4, l1, l2, l3⟩
        exact ⟨_, rfl, q _ c ms s4 nc c4 l1 l2⟩

end
end Pot

namespace Pot
open PySem PySem.Spec PyProof.Rows L2
section
variable {P : Program} {w : World} {K : PySem.W.Frag} {mg : Str → Option Value} {base : Heap}
def Lt (fi stp : Int) (j : Nat) : Nat := 97 + ((fi + stp * (0 + (j : Int))) % 26).toNat
theorem lt_inj {fi stp : Int} {i j : Nat} (hs : stp = 3 ∨ stp = 5 ∨ stp = 25) (hi : i < 26) (hj : j < 26) (e : Lt fi stp i = Lt fi stp j) : i = j := by
  unfold Lt at e
  rcases hs with rfl | rfl | rfl <;> omega
theorem cps_app (a b : Str) : (a ++ b).cps.toList = a.cps.toList ++ b.cps.toList := Array.toList_append
/-- the names found so far: each has its letter at its place, none is there twice -/
structure Nms (fi stp : Int) (a2 : Nat) (ys : List Str) : Prop where
  nm : ∀ y ∈ ys, Nm y
  nd : ys.Nodup
  lt : ∀ (p : Nat) (y : Str), ys[p]? = some y → ∃ j, j ≤ p ∧ y.cps.toList[a2]? = some (Lt fi stp j) ∧ (p % 2 = 0 → j = p)
theorem Nms.nil {fi stp : Int} {a2 : Nat} : Nms fi stp a2 [] := ⟨fun _ h => (List.not_mem_nil h).elim, List.nodup_nil, fun _ _ h => by simp at h⟩
theorem Nms.put {fi stp : Int} {a2 : Nat} {ys : List Str} {z : Str} {j : Nat} (M : Nms fi stp a2 ys) (n : Nm z) (nz : z ∉ ys) (hj : j ≤ ys.length) (h : z.cps.toList[a2]? = some (Lt fi stp j)) (e : ys.length % 2 = 0 → j = ys.length) : Nms fi stp a2 (ys ++ [z]) := by
  refine ⟨fun y hy => ?_, ?_, fun p y hp => ?_⟩
  · rcases List.mem_append.mp hy with k | k
    · exact M.nm y k
    · rw [List.mem_singleton.mp k]; exact n
  · refine List.nodup_append.mpr ⟨M.nd, by simp, fun a ha b hb => ?_⟩
    rw [List.mem_singleton.mp hb]
    intro k; exact nz (k ▸ ha)
  · rcases Nat.lt_or_ge p ys.length with k | k
    · rw [List.getElem?_append_left k] at hp
      exact M.lt p y hp
    · rw [List.getElem?_append_right k] at hp
      have e0 : p = ys.length := by
        rcases Nat.lt_or_ge (p - ys.length) 1 with q | q
        · omega
        · rw [List.getElem?_eq_none (by simpa using q)] at hp; cases hp
      subst e0
      have : z = y := by simpa using hp
      subst this
      exact ⟨j, hj, h, e⟩
/-- a name with its own letter is new -/
theorem Nms.fresh {fi stp : Int} {a2 : Nat} {ys : List Str} {z : Str} (M : Nms fi stp a2 ys) (hs : stp = 3 ∨ stp = 5 ∨ stp = 25) (l : ys.length < 26) (h : z.cps.toList[a2]? = some (Lt fi stp ys.length)) : z ∉ ys := fun k => by
  obtain ⟨p, hp⟩ := List.getElem?_of_mem k
  have hl := (List.getElem?_eq_some_iff.mp hp).1
  obtain ⟨j, h1, h2, _⟩ := M.lt p z hp
  rw [h2] at h
  have := lt_inj hs (by omega) l (Option.some.inj h)
  omega
/-- a name longer than the last one is new -/
theorem Nms.longer {fi stp : Int} {a2 : Nat} {hd : List Str} {y z : Str} (M : Nms fi stp a2 (hd ++ [y])) (hs : stp = 3 ∨ stp = 5 ∨ stp = 25) (l : hd.length < 26) (e : hd.length % 2 = 0) (lz : y.length < z.length) (h : z.cps.toList[a2]? = y.cps.toList[a2]?) : z ∉ hd ++ [y] := fun k => by
  obtain ⟨j0, _, h0, e0⟩ := M.lt hd.length y (by simp)
  obtain ⟨p, hp⟩ := List.getElem?_of_mem k
  rcases Nat.lt_or_ge p hd.length with q | q
  · obtain ⟨j, h1, h2, _⟩ := M.lt p z hp
    rw [h2, h0] at h
    have := lt_inj hs (by omega) (by rw [e0 e]; omega) (Option.some.inj h)
    have := e0 e
    omega
  · rw [List.getElem?_append_right q] at hp
    have : y = z := by
      rcases Nat.lt_or_ge (p - hd.length) 1 with q2 | q2
      · have : p - hd.length = 0 := by omega
        rw [this] at hp
        simpa using hp
      · rw [List.getElem?_eq_none (by simpa using q2)] at hp; cases hp
    subst this
    omega
abbrev s__law_names : Stmt := topS 20
def n__law_names : List Str := ["_law_box_here", "_law_many", "_law_letters", "_law_found", "_law_k", "_law_stem", "_law_at", "_law_first", "_law_longer", "_law_one"]
theorem sc__law_names : FnScope n__law_names ["_law_box_here", "_law_many"] (defScope s__law_names) := ⟨rfl, rfl, rfl, by decide +kernel, rfl, by decide +kernel, by decide +kernel⟩
def spNames : Sp := fun vs H Q _ => ∃ (b : Addr) (n m : Nat), vs = [.ref b, .int (m : Nat)] ∧ Bp H b n ∧ n + 2000 < 2 ^ 40 ∧ m ≤ 12 ∧
  ∀ (H' : Hp) (L : Addr) (ys : List Str), Bp H' b (n + 20) → Sm [b] H H' → H L = none → H' L = some (.lst (ys.map V.str)) → ys.length = m → (∀ y ∈ ys, Nm y) → ys.Nodup → Q (.ref L) H'
theorem ok_names {f : Addr} {fd : FuncData} {k : Nat} (F : Fun K "_law_names" "_law_names" s__law_names f fd) (T : Txt mg) (c__law_take : Cl P w K mg base (k + 1) "_law_take" spTake) : FnOk P w K mg base CX0 (k + 2) f fd ["_law_box_here", "_law_many"] spNames := by
  refine F.ok sc__law_names (fun vs H Q E h => ?_) (fun cdv A outer s H vs Q E hr h => ?_)
  · obtain ⟨b, n, m, rfl, _⟩ := h
    rfl
  · obtain ⟨b, n, m, rfl, B, hn, hm, q⟩ := h
    have nd := sc__law_names.nd
    /- 0 _law_box_here, 1 _law_many, 2 _law_letters, 3 _law_found, 4 _law_k, 5 _law_stem, 6 _law_at, 7 _law_first, 8 _law_longer, 9 _law_one -/
    refine ⟨_, (pss_cons (ps_asg (pe_tup (pa_cons pe_str (pa_cons (pe_lst pa_nil) pa_nil))) (kg_tup (K := K) (n := 2) (pgs_cons (pg_name (i := 2) nd rfl (.inr rfl)) (pgs_cons (pg_name (i := 3) nd rfl (.inl rfl)) pgs_nil))))
      (pss_cons (ps_set (i := 5) nd rfl (.inl rfl) (ke_join (K := K) pe_str (pe_lc (own := [("_law_k", 4)]) rfl nd (pi_range1 (by rfl) T.range (pa_cons (pe_cl c__law_take hr (by omega) (by rfl) (pa_cons (pv 0) (pa_cons pe_int pa_nil))) pa_nil)) (blkOk_by (N := n__law_names) (sc := defScope s__law_names) (by decide +kernel)) (fun _ _ _ _ _ => (pg_name (i := 4) nd rfl (.inl rfl))) (fun _ _ _ _ _ => pts_nil) (fun _ _ _ _ _ => (pe_ix ix_str (pv 2) (pe_cl c__law_take hr (by omega) (by rfl) (pa_cons (pv 0) (pa_cons pe_int pa_nil))) (fun _ _ => rfl))))))
      (pss_cons (ps_par3 (i := 6) (j := 7) (l := 8) rfl nd rfl rfl rfl (by decide) (by decide) (by decide) rfl rfl rfl (pa_cons (pe_cl c__law_take hr (by omega) (by rfl) (pa_cons (pv 0) (pa_cons (pe_op op_add (pe_callB (kc_len (K := K)) (by rfl) T.len PySem.boot_len (pa_cons (pv 5) pa_nil)) pe_int) pa_nil))) (pa_cons (pe_cl c__law_take hr (by omega) (by rfl) (pa_cons (pv 0) (pa_cons pe_int pa_nil))) (pa_cons (pe_cl c__law_take hr (by omega) (by rfl) (pa_cons (pv 0) (pa_cons pe_int pa_nil))) pa_nil))) rfl)
      (pss_cons (ps_for PassesOwn.never rfl (pi_range1 (by rfl) T.range (pa_cons (pv 1) pa_nil)) (pg_name (i := 4) nd rfl (.inl rfl))
          (pss_cons (ps_set (i := 9) nd rfl (.inl rfl) (pe_op op_add_str (pe_op op_add_str (pe_slice sl_str (pv 5) po_none (po_some (pv 6))) (pe_ix ix_str (pv 2) (pe_op op_mod (pe_op op_add (pv 7) (pe_op op_mul pe_int (pv 4))) pe_int) (fun _ _ => rfl))) (pe_slice sl_str (pv 5) (po_some (pv 6)) po_none)))
          (pss_one (ps_expr (pe_bm PySem.F.plainAttrs_list PySem.F.slot_list_append PySem.F.type_list_append mt_append (pv 3) (pa_cons (pe_ifExp (pt_cmpR op_eq (pe_op op_mod (pe_op op_mul (pv 8) (pv 4)) pe_int) pe_int (nomark _)) (pe_op op_add_str (pe_ix (kx_list (K := K)) (pv 3) (pe_un un_neg pe_int) (fun _ _ => rfl)) (pe_ix ix_str (pv 2) (pe_op op_mod (pe_op op_add (pv 7) (pv 4)) pe_int) (fun _ _ => rfl))) (pv 9)) pa_nil))))))
      (pss_one (ps_ret (pv 3))))))), ?_⟩
    have lv := Live.pw B
    have sc : Sm [b] H H := Same.refl _
    obtain ⟨S, eS⟩ : ∃ S, S = [b] := ⟨_, rfl⟩
    have hb : b ∈ S := by rw [eS]; simp
    rw [← eS] at lv
    refine ⟨Nat.zero_le _, fun L nL => ?_⟩
    have nL0 := sm_free sc B.bx nL
    have Lb := B.ne nL
    have fL := off_new (o := .lst []) lv nL
    have lv := lv.put (o := .lst []) nL
    have B := B.put (o := .lst []) nL
    have sc := sc.trans (sm_put (S := [b]) (o := .lst []) nL)
    generalize upd H L (.lst []) = H1 at fL lv B sc  ⊢
    refine ⟨(by show 2 ≤ sizeLine; decide), fun t nt => ?_⟩
    have ft := off_new (o := .tup [.str "abcdefghijklmnopqrstuvwxyz", .ref L]) lv nt
    have lv := lv.put (o := .tup [.str "abcdefghijklmnopqrstuvwxyz", .ref L]) nt
    have B := B.put (o := .tup [.str "abcdefghijklmnopqrstuvwxyz", .ref L]) nt
    have sc := sc.trans (sm_put (S := [b]) (o := .tup [.str "abcdefghijklmnopqrstuvwxyz", .ref L]) nt)
    have fL := (sm_put (S := S) (o := .tup [.str "abcdefghijklmnopqrstuvwxyz", .ref L]) nt) _ _ fL
    generalize upd H1 t (.tup [.str "abcdefghijklmnopqrstuvwxyz", .ref L]) = H2 at ft lv B sc fL ⊢
    refine ⟨t, _, rfl, .inl (.inl (at_off ft)), rfl, _, _, rfl, _, _, rfl, rfl, ?_⟩
    refine ⟨⟨_, rfl⟩, _, rfl, b, 7, _, rfl, (by decide), (by decide), B, by omega, fun H6 sn s0 s1 B4 s4 => ⟨_, rfl, (by omega), (by omega), fun D nD => ?_⟩⟩
    have lv := lv.box B4.bx s4
    have sc := sc.trans s4
    have B := B4
    have fL := (sm_one hb s4) _ _ fL
    have nDb := B.ne nD
    refine lc_it walk_range (fun i H5 => Bp H5 b (n + 1 + i) ∧ Sm [b] H6 H5 ∧ ∃ ys : List Str, H5 D = some (.lst (ys.map V.str)) ∧ ys.length = i ∧ ∀ y ∈ ys, Wd 1 y) ⟨(B.put nD).mono (by omega), sm_put nD, [], upd_same, rfl, fun _ h => (List.not_mem_nil h).elim⟩ (fun _ _ _ _ => trivial) ?_ ?_
    · rintro i x H5 H6 hi ⟨B5, s5, ys, hL, hy, hw⟩ ⟨rfl, rfl⟩
      refine ⟨rfl, tYes_at ?_⟩
      rw [if_pos rfl]
      refine ⟨_, rfl, _, rfl, b, 26, _, rfl, (by decide), (by decide), B5, by omega, fun H7 r r0 r1 B7 s7 => ?_⟩
      refine ⟨_, r, 97 + r.toNat, rfl, rfl, (by decide +kernel), az_ix r0 r1, _, sm1_at s7 nDb hL, ?_, (B7.wr nDb).mono (by omega), smp (s5.trans s7) nD, ys ++ [⟨#[97 + r.toNat]⟩], ?_, ?_, ?_⟩
      · rw [List.length_map, hy]; exact Nat.lt_of_lt_of_le (show i < 8 by omega) (by decide)
      · rw [upd_same, List.map_append]; rfl
      · rw [List.length_append, hy]; rfl
      · intro y h
        rcases List.mem_append.mp h with h | h
        · exact hw y h
        · rw [List.mem_singleton.mp h]; exact wd_letter r0 r1
    rintro H7 ⟨B5, s5, ys, hD, hy, hw⟩
    have lv := lv.box B5.bx s5
    have sc := sc.trans s5
    have B := B5
    have fL := (sm_one hb s5) _ _ fL
    have hy7 : ys.length ≤ 6 := by omega
    refine ⟨_, D, ys, rfl, rfl, .inl (SqL.of hD), ?_, ?_⟩
    · have := wd1_sum hw
      show _ + ys.length * 0 ≤ _
      omega
    have hst : Wd 6 (Txt.join (Str.ofString "") ys) := by rw [TL.join_eq]; exact (wd_join hw).mono hy7
    have B := B.mono (show _ ≤ n + 7 by omega)
    generalize Txt.join (Str.ofString "") ys = st at hst ⊢
    clear hD hy hw hy7
    refine ⟨_, rfl, _, rfl, _, _, rfl, ⟨wd_small hst (by decide), rfl⟩, _, _, rfl, rfl, b, _, _, rfl, (by have := hst.1; omega), (by have := hst.1; omega), B, by omega, fun H8 a a0 a1 B8 s8 => ?_⟩
    have lv := lv.box B8.bx s8
    have sc := sc.trans s8
    have B := B8
    have fL := (sm_one hb s8) _ _ fL
    refine ⟨_, rfl, b, 26, _, rfl, (by decide), (by decide), B, by omega, fun H9 fi f0 f1 B9 s9 => ?_⟩
    have lv := lv.box B9.bx s9
    have sc := sc.trans s9
    have B := B9
    have fL := (sm_one hb s9) _ _ fL
    refine ⟨_, rfl, b, 2, _, rfl, (by decide), (by decide), B, by omega, fun H10 lo l0 l1 B10 s10 => ⟨_, _, _, rfl, ?_⟩⟩
    have lv := lv.box B10.bx s10
    have sc := sc.trans s10
    have B := B10
    have fL := (sm_one hb s10) _ _ fL
    obtain ⟨a, rfl⟩ : ∃ a2 : Nat, a = (a2 : Int) := ⟨a.toNat, by omega⟩
    have hL := at_off fL
    refine ⟨_, rfl, _, rfl, (by omega), (by omega), ?_⟩
    rw [Int.toNat_natCast]
    refine for_it walk_range (fun i σ H3 => ∃ v4 v9, σ = [some (.ref b), some (.int (m : Nat)), some (.str "abcdefghijklmnopqrstuvwxyz"), some (.ref L), v4, some (.str st), some (.int (a : Nat)), some (.int fi), some (.int lo), v9] ∧ Bp H3 b (n + 20) ∧ Sm [b] H H3 ∧ ∃ ys : List Str, H3 L = some (.lst (ys.map V.str)) ∧ ys.length = i ∧ (∀ y ∈ ys, Nm y) ∧ (∀ p y, ys[p]? = some y → p % 2 = 0 → Wd 7 y) ∧ Nms fi 3 (cutS st none (some (a : Int))).cps.toList.length ys)
      ⟨_, _, rfl, B.mono (by omega), sc, [], hL, rfl, (fun _ h => (List.not_mem_nil h).elim), (fun p y h => by simp at h), Nms.nil⟩ (fun _ _ _ _ _ => trivial) ?_ ?_
    · rintro i x σ H11 H12 hi ⟨v4, v9, rfl, B, sc, ys, hL, hy, hw, hev, M⟩ ⟨rfl, rfl⟩
      have nn : 0 ≤ (fi + 3 * (0 + (i : Int))) % 26 := Int.emod_nonneg _ (by decide)
      have nn1 : (fi + 3 * (0 + (i : Int))) % 26 < 26 := Int.emod_lt_of_pos _ (by decide)
      have mm : 0 ≤ (fi + (0 + (i : Int))) % 26 := Int.emod_nonneg _ (by decide)
      have mm1 : (fi + (0 + (i : Int))) % 26 < 26 := Int.emod_lt_of_pos _ (by decide)
      have h6 := hst.1
      have l1 := cut_small st none (some (a : Int))
      have l2 := cut_small st (some (a : Int)) none
      have w1 := wd_cut (lo := none) (hi := some (a : Int)) hst
      have wl := wd_letter nn nn1
      refine ⟨_, rfl, _, rfl, _, rfl, _, rfl, wd_small hst (by decide), _, rfl, _, rfl, _, rfl, _, _, rfl, rfl, .inl ⟨by decide, by decide⟩, _, _, rfl, rfl, _, _, rfl, rfl, (by show (0 : Int) < 26; decide), _, _, _, rfl, rfl, (by decide +kernel), az_ix nn nn1, _, _, rfl, rfl, ?_, ?_⟩
      · show _ + 1 ≤ sizeLine
        rw [sizeLine_eq]; omega
      refine ⟨_, rfl, _, rfl, _, rfl, _, rfl, wd_small hst (by decide), _, _, rfl, rfl, ?_, ?_⟩
      · rw [strLen_append, sizeLine_eq]
        show _ + 1 + _ ≤ _
        omega
      obtain ⟨on, eon⟩ : ∃ on, on = cutS st none (some (a : Int)) ++ (⟨#[97 + ((fi + 3 * (0 + (i : Int))) % 26).toNat]⟩ : Str) ++ cutS st (some (a : Int)) none := ⟨_, rfl⟩
      have lon : on.length = (cutS st none (some (a : Int))).length + 1 + (cutS st (some (a : Int)) none).length := by rw [eon, strLen_append, strLen_append]; rfl
      have lcut : (cutS st none (some (a : Int))).length + (cutS st (some (a : Int)) none).length ≤ 6 := by
        have h1 := cut_len st none (some (a : Int))
        have h2 := cut_len st (some (a : Int)) none
        rw [HT.sIx_nat, HT.sIx_none] at h1
        rw [HT.sIx_nat, HT.sIx_none] at h2
        omega
      have won : Wd 7 on := by
        refine ⟨by omega, fun c hc => ?_⟩
        rw [eon] at hc
        exact (wd_add (wd_add w1 wl) (wd_cut (lo := some (a : Int)) (hi := none) hst)).2 c hc
      show gName 9 (V.str (cutS st none (some (a : Int)) ++ (⟨#[97 + ((fi + 3 * (0 + (i : Int))) % 26).toNat]⟩ : Str) ++ cutS st (some (a : Int)) none)) _ _ _
      rw [← eon]
      have on1 : on.cps.toList[(cutS st none (some (a : Int))).cps.toList.length]? = some (Lt fi 3 i) := by
        rw [eon, cps_app, cps_app, List.append_assoc, List.getElem?_append_right (Nat.le_refl _), Nat.sub_self]
        rfl
      clear eon
      have small : (ys.map V.str).length < sizeLine := by rw [List.length_map, sizeLine_eq]; omega
      have fin : ∀ (nm : Str), Nm nm → (i % 2 = 0 → Wd 7 nm) → nm ∉ ys → (∃ j, j ≤ ys.length ∧ nm.cps.toList[(cutS st none (some (a : Int))).cps.toList.length]? = some (Lt fi 3 j) ∧ (ys.length % 2 = 0 → j = ys.length)) →
          ∃ v4 v9, [some (V.ref b), some (.int (m : Nat)), some (.str "abcdefghijklmnopqrstuvwxyz"), some (.ref L), some (.int (0 + (i : Int))), some (.str st), some (.int (a : Nat)), some (.int fi), some (.int lo), some (.str on)] = [some (V.ref b), some (.int (m : Nat)), some (.str "abcdefghijklmnopqrstuvwxyz"), some (.ref L), v4, some (.str st), some (.int (a : Nat)), some (.int fi), some (.int lo), v9] ∧ Bp (upd H12 L (.lst (ys.map V.str ++ [.str nm]))) b (n + 20) ∧ Sm [b] H (upd H12 L (.lst (ys.map V.str ++ [.str nm]))) ∧ ∃ ys2 : List Str, upd H12 L (.lst (ys.map V.str ++ [.str nm])) L = some (.lst (ys2.map V.str)) ∧ ys2.length = i + 1 ∧ (∀ y ∈ ys2, Nm y) ∧ (∀ p y, ys2[p]? = some y → p % 2 = 0 → Wd 7 y) ∧ Nms fi 3 (cutS st none (some (a : Int))).cps.toList.length ys2 := by
        intro nm hn he nz ⟨j, j1, j2, j3⟩
        refine ⟨_, _, rfl, B.wr Lb, smp sc nL0, ys ++ [nm], by rw [upd_same, List.map_append]; rfl, by rw [List.length_append, hy]; rfl, fun y h => ?_, fun p y hp h2 => ?_, M.put hn nz j1 j2 j3⟩
        · rcases List.mem_append.mp h with h | h
          · exact hw y h
          · rw [List.mem_singleton.mp h]; exact hn
        · rcases Nat.lt_or_ge p ys.length with k | k
          · rw [List.getElem?_append_left k] at hp
            exact hev p y hp h2
          · rw [List.getElem?_append_right k] at hp
            have e0 : p = ys.length := by
              rcases Nat.lt_or_ge (p - ys.length) 1 with q | q
              · omega
              · rw [List.getElem?_eq_none (by simpa using q)] at hp; cases hp
            subst e0
            have : nm = y := by simpa using hp
            subst this
            exact he (by omega)
      have nmon : Nm on := ⟨won.mono (by decide), by omega⟩
      refine ⟨_, rfl, .inl ⟨rfl, _, SqL.of hL⟩, _, rfl, _, rfl, _, _, rfl, rfl, .inl ⟨by omega, by omega⟩, _, _, rfl, rfl, (by show (0 : Int) < 2; decide), rfl, _, rfl, ite2 (fun h1 => ?_) (fun h1 => ?_)⟩
      · have e1 : lo * (0 + (i : Int)) % 2 = 1 := V.int.inj (of_decide_eq_true h1)
        have i2 : i % 2 = 1 := by
          have h : lo = 0 ∨ lo = 1 := by omega
          rcases h with rfl | rfl
          · rw [Int.zero_mul] at e1; cases e1
          · rw [Int.one_mul] at e1; omega
        have ne2 : ys ≠ [] := fun z => by rw [z] at hy; simp at hy; omega
        obtain ⟨hd, y0, e0⟩ : ∃ hd y0, ys = hd ++ [y0] := ⟨_, _, (List.dropLast_concat_getLast ne2).symm⟩
        have el : atI (ys.map V.str) (-1) = some (.str y0) := by
          rw [e0, List.map_append]; exact atI_last _ _
        have lhd : hd.length = i - 1 := by rw [e0, List.length_append] at hy; have : [y0].length = 1 := rfl; omega
        have wy0 : Wd 7 y0 := hev hd.length y0 (by rw [e0]; simp) (by omega)
        have ly := wy0.1
        refine ⟨_, rfl, 1, rfl, L, _, -1, _, rfl, rfl, SqL.of hL, el, _, rfl, _, rfl, _, rfl, _, _, rfl, rfl, _, _, rfl, rfl, (by show (0 : Int) < 26; decide), _, _, _, rfl, rfl, (by decide +kernel), az_ix mm mm1, _, _, rfl, rfl, ?_, ?_⟩
        · show _ + 1 ≤ sizeLine
          rw [sizeLine_eq]; omega
        have zl : (y0 ++ (⟨#[97 + ((fi + (0 + (i : Int))) % 26).toNat]⟩ : Str)).cps.toList[(cutS st none (some (a : Int))).cps.toList.length]? = y0.cps.toList[(cutS st none (some (a : Int))).cps.toList.length]? := by
          obtain ⟨j0, q0, q1, q2⟩ := M.lt hd.length y0 (by rw [e0]; simp)
          rw [cps_app, List.getElem?_append_left (List.getElem?_eq_some_iff.mp q1).1]
        have nz : (y0 ++ (⟨#[97 + ((fi + (0 + (i : Int))) % 26).toNat]⟩ : Str)) ∉ ys := by
          have M2 := M
          rw [e0] at M2 ⊢
          exact M2.longer (.inl rfl) (by omega) (by omega) (by rw [strLen_append]; show _ < _ + 1; omega) zl
        refine ⟨L, _, _, rfl, rfl, hL, small, fin _ ⟨wd_add wy0 (wd_letter mm mm1), by rw [strLen_append]; show 0 < _ + 1; omega⟩ (fun z => by omega) nz (by obtain ⟨j0, q0, q1, q2⟩ := M.lt hd.length y0 (by rw [e0]; simp); exact ⟨j0, by rw [e0, List.length_append]; omega, by rw [zl]; exact q1, fun z => by rw [hy] at z; omega⟩)⟩
      · exact ⟨_, rfl, L, _, _, rfl, rfl, hL, small, fin _ nmon (fun _ => won) (M.fresh (.inl rfl) (by omega) (by rw [hy]; exact on1)) ⟨i, by omega, on1, fun _ => hy.symm⟩⟩
    · rintro σ H11 ⟨v4, v9, rfl, B, sc, ys, hL, hy, hw, hev, M⟩
      exact ⟨_, rfl, q _ L ys B sc nL0 hL hy hw M.nd⟩

end
end Pot

namespace Pot
open PySem PySem.Spec PyProof.Rows L2
section
variable {P : Program} {w : World} {K : PySem.W.Frag} {mg : Str → Option Value} {base : Heap}
structure PalE (cs : List Col) (ws : List Wsh) : Prop where
  ok : PalOk cs ws
  ne : 0 < cs.length
  le : cs.length ≤ 6
  ch : ∀ c ∈ cs, 1 ≤ c.2.1 ∧ c.2.1 ≤ 3 ∧ 0 ≤ c.2.2.1 ∧ c.2.2.1 ≤ 4 ∧ 1 ≤ c.2.2.2 ∧ c.2.2.2 ≤ 999
  wd : ∀ c ∈ cs, Nm c.1
  wa : ∀ r ∈ ws, (∀ i, r.2.2 = some i → 0 ≤ i ∧ i ≤ 3) ∧ Nm r.1 ∧ Nm r.2.1
abbrev s__law_palette : Stmt := topS 21
def n__law_palette : List Str := ["_law_box_here", "_law_most", "_law_names_here", "_law_colours", "_law_washes", "_law_name", "_law_gathers", "_law_other", "_law_barred"]
theorem sc__law_palette : FnScope n__law_palette ["_law_box_here", "_law_most"] (defScope s__law_palette) := ⟨rfl, rfl, rfl, by decide +kernel, rfl, by decide +kernel, by decide +kernel⟩
def spPalette (K : PySem.W.Frag) : Sp := fun vs H Q _ => ∃ (b : Addr) (n mo : Nat), vs = [.ref b, .int (mo : Nat)] ∧ 1 ≤ mo ∧ mo ≤ 6 ∧ Bp H b n ∧ n + 5000 < 2 ^ 40 ∧
  ∀ (H' : Hp) (v : V) (cs : List Col) (ws : List Wsh), Bp H' b (n + 300) → Sm [b] H H' → Dp K (off H' [b]) v (palD cs ws) → PalE cs ws → (cs.map fun c => c.1).Nodup → Q v H'
theorem ok_palette {f : Addr} {fd : FuncData} {k : Nat} (F : Fun K "_law_palette" "_law_palette" s__law_palette f fd) (T : Txt mg) (c__law_take : Cl P w K mg base (k + 1) "_law_take" spTake) (c__law_names : Cl P w K mg base (k + 2) "_law_names" spNames) : FnOk P w K mg base CX0 (k + 3) f fd ["_law_box_here", "_law_most"] (spPalette K) := by
  refine F.ok sc__law_palette (fun vs H Q E h => ?_) (fun cdv A outer s H vs Q E hr h => ?_)
  · obtain ⟨b, n, mo, rfl, _⟩ := h
    rfl
  · obtain ⟨b, n, mo, rfl, mo1, mo6, B, hn, q⟩ := h
    have nd := sc__law_palette.nd
    /- 0 _law_box_here, 1 _law_most, 2 _law_names_here, 3 _law_colours, 4 _law_washes, 5 _law_name, 6 _law_gathers, 7 _law_other, 8 _law_barred -/
    refine ⟨_, (pss_cons (ps_set (i := 2) nd rfl (.inl rfl) (pe_callB (kc_sortedS (K := K)) (by rfl) T.sorted (by decide +kernel) (pa_cons (pe_cl c__law_names hr (by omega) (by rfl) (pa_cons (pv 0) (pa_cons (pe_op op_add pe_int (pe_cl c__law_take hr (by omega) (by rfl) (pa_cons (pv 0) (pa_cons (pv 1) pa_nil)))) pa_nil))) pa_nil)))
      (pss_cons (ps_par (i := 3) (j := 4) rfl nd rfl rfl (by decide) rfl rfl (pa_cons (pe_lst pa_nil) (pa_cons (pe_lst pa_nil) pa_nil)) rfl)
      (pss_cons (ps_for PassesOwn.never rfl (ki_list (K := K) (pv 2)) (pg_name (i := 5) nd rfl (.inl rfl))
          (pss_cons (ps_set (i := 6) nd rfl (.inl rfl) (pe_op op_add pe_int (pe_cl c__law_take hr (by omega) (by rfl) (pa_cons (pv 0) (pa_cons (pe_ix (kx_list (K := K)) (pe_lst (pa_cons pe_int (pa_cons pe_int (pa_cons pe_int pa_nil)))) (pe_cl c__law_take hr (by omega) (by rfl) (pa_cons (pv 0) (pa_cons pe_int pa_nil))) (fun _ _ => rfl)) pa_nil)))))
          (pss_cons (ps_expr (pe_bm PySem.F.plainAttrs_list PySem.F.slot_list_append PySem.F.type_list_append mt_append (pv 3) (pa_cons (pe_tup (pa_cons (pv 5) (pa_cons (pe_op op_add pe_int (pe_cl c__law_take hr (by omega) (by rfl) (pa_cons (pv 0) (pa_cons pe_int pa_nil)))) (pa_cons (pe_cl c__law_take hr (by omega) (by rfl) (pa_cons (pv 0) (pa_cons pe_int pa_nil))) (pa_cons (pv 6) pa_nil))))) pa_nil)))
          (pss_one (ps_for PassesOwn.never rfl (ki_list (K := K) (pv 2)) (pg_name (i := 7) nd rfl (.inl rfl))
              (pss_one (ps_if ((pw_and (pt_cmpR op_ne (pv 7) (pv 5) (nomark _)) (pw_and1 (pt_cmpR op_eq (pe_cl c__law_take hr (by omega) (by rfl) (pa_cons (pv 0) (pa_cons pe_int pa_nil))) pe_int (nomark _))))).pt
                  (pss_cons (ps_set (i := 8) nd rfl (.inl rfl) (pe_cmpR op_eq (pe_cl c__law_take hr (by omega) (by rfl) (pa_cons (pv 0) (pa_cons pe_int pa_nil))) pe_int (nomark _)))
                  (pss_one (ps_expr (pe_bm PySem.F.plainAttrs_list PySem.F.slot_list_append PySem.F.type_list_append mt_append (pv 4) (pa_cons (pe_tup (pa_cons (pv 5) (pa_cons (pv 7) (pa_cons (pe_ifExp (pt_val (pv 8)) pe_non (pe_cl c__law_take hr (by omega) (by rfl) (pa_cons (pv 0) (pa_cons pe_int pa_nil)))) pa_nil)))) pa_nil)))))
                  pss_nil)))))))
      (pss_one (ps_ret (pe_tup (pa_cons (pe_callTy (kc_tuple (K := K)) (by rfl) T.tuple (by decide +kernel) (pa_cons (pv 3) pa_nil)) (pa_cons (pe_callTy (kc_tuple (K := K)) (by rfl) T.tuple (by decide +kernel) (pa_cons (pv 4) pa_nil)) pa_nil)))))))), ?_⟩
    refine ⟨_, rfl, _, rfl, _, rfl, b, (mo : Nat), n, rfl, (by omega), (by omega), B, by omega, fun H1 r1 r10 r11 B1 s1 => ⟨_, _, rfl, rfl, ?_⟩⟩
    obtain ⟨m, em⟩ : ∃ m : Nat, (1 : Int) + r1 = (m : Int) := ⟨(1 + r1).toNat, by omega⟩
    refine ⟨b, n + 1, m, (by show [V.ref b, V.int (1 + r1)] = _; rw [em]), B1, by omega, by omega, fun H2 N0 ys B2 s2 nN hN ly wy yn => ?_⟩
    have sc := s1.trans s2
    refine ⟨N0, ys, rfl, SqL.of hN, (by omega), fun zs N hz hsort nZ => ?_⟩
    have lz : zs.length = m := by rw [hz.length_eq]; exact ly
    have nz : ∀ y ∈ zs, Nm y := fun y hy => wy y (hz.mem_iff.mp hy)
    have lv : Live [b] H2 := Live.pw B2
    have fN := off_new (o := .lst (zs.map V.str)) lv nZ
    have B := B2.put (o := .lst (zs.map V.str)) nZ
    have sc := sc.trans (sm_put (S := [b]) (o := .lst (zs.map V.str)) nZ)
    generalize upd H2 N (.lst (zs.map V.str)) = H3 at fN B sc ⊢
    have lv : Live [b] H3 := Live.pw B
    refine ⟨Nat.zero_le _, fun C nC => ⟨Nat.zero_le _, fun W nW => ⟨_, _, rfl, ?_⟩⟩⟩
    have Cb := B.ne nC
    have nC0 := sm_free sc B.bx nC
    have CW : C ≠ W := ne_of_none upd_same nW
    have Wb := (B.put nC).ne nW
    have nW0 := sm_free (sc.trans (sm_put nC)) (B.put nC).bx nW
    have ap : PAc H b C W := ⟨Cb, Wb, CW, nC0, nW0⟩
    have start : PMc K H b C W N zs (n + 21) [] [] [] [] (upd (upd H3 C (.lst [])) W (.lst [])) := by
      have e1 : off (upd (upd H3 C (.lst [])) W (.lst [])) [C, W, b] N = some (.lst (zs.map V.str)) := by
        have hN3 := at_off fN
        have Nb : N ∉ [b] := off_mem fN
        have NC : N ≠ C := ne_of_none hN3 nC
        have NW : N ≠ W := ne_of_none (same_upd nC _ _ hN3) nW
        rw [off_out (by simp only [List.mem_cons, List.not_mem_nil, or_false] at Nb ⊢; rintro (h | h | h); exact NC h; exact NW h; exact Nb h)]
        exact same_upd nW _ _ (same_upd nC _ _ hN3)
      exact ⟨((B.put nC).put nW).mono (by omega), (sc.trans (sm_put nC)).trans (sm_put nW), e1, by rw [upd_ne CW]; exact upd_same, .nil, upd_same, .nil⟩
    generalize upd (upd H3 C (.lst [])) W (.lst []) = H5 at start ⊢
    have m6 : m ≤ 6 := by omega
    refine ⟨_, rfl, N, rfl, ⟨_, SqL.of (at_off start.hN)⟩, ?_⟩
    refine for_it (walk_list (xs := zs.map V.str)) (fun i σ H6 => ∃ v5 v6 v7 v8 xs us cs ws, σ = [some (.ref b), some (.int (mo : Nat)), some (.ref N), some (.ref C), some (.ref W), v5, v6, v7, v8] ∧ PMc K H b C W N zs (n + 21 + 22 * i) xs us cs ws H6 ∧ PalOk cs ws ∧ (cs.length = i ∧ cs.map (fun c => c.1) = zs.take i) ∧ ws.length ≤ 6 * i ∧ (∀ c ∈ cs, (1 ≤ c.2.1 ∧ c.2.1 ≤ 3 ∧ 0 ≤ c.2.2.1 ∧ c.2.2.1 ≤ 4 ∧ 1 ≤ c.2.2.2 ∧ c.2.2.2 ≤ 999) ∧ Nm c.1) ∧ ∀ r ∈ ws, (∀ i, r.2.2 = some i → 0 ≤ i ∧ i ≤ 3) ∧ Nm r.1 ∧ Nm r.2.1)
      ⟨_, _, _, _, [], [], [], [], rfl, start, ⟨Nat.zero_le _, Nat.zero_le _, fun _ h => (List.not_mem_nil h).elim, fun _ h => (List.not_mem_nil h).elim⟩, ⟨rfl, rfl⟩, Nat.zero_le _, (fun _ h => (List.not_mem_nil h).elim), fun _ h => (List.not_mem_nil h).elim⟩ (fun i σ H6 _ h => by obtain ⟨_, _, _, _, _, _, _, _, _, M, _⟩ := h; exact SqL.of (at_off M.hN)) ?_ ?_
    · rintro i x σ H6 H7 hi ⟨v5, v6, v7, v8, xs, us, cs, ws, rfl, M, ok, ⟨lcs, lcn⟩, lws, ch, wa⟩ ⟨rfl, gx⟩
      rw [List.getElem?_map] at gx
      obtain ⟨z, gz, rfl⟩ := Option.map_eq_some_iff.mp gx
      have hi2 : i < m := by have := (List.getElem?_eq_some_iff.mp gz).1; omega
      have nzz := nz z (List.mem_of_getElem? gz)
      refine ⟨_, rfl, (by show 3 ≤ sizeLine; decide), fun a1 na1 => ?_⟩
      have a1b := M.st.ne na1
      have M := M.put (o := .lst [.int 4, .int 12, .int 999]) na1
      have h1 : upd H7 a1 (.lst [.int 4, .int 12, .int 999]) a1 = some (.lst [.int 4, .int 12, .int 999]) := upd_same
      generalize upd H7 a1 (.lst [.int 4, .int 12, .int 999]) = H8 at M h1 ⊢
      refine ⟨_, rfl, b, 3, _, rfl, (by decide), (by decide), M.st, by omega, fun H9 r2 r20 r21 B9 s9 => ?_⟩
      have h1 := sm1_at s9 a1b h1
      have M := M.drawn ap B9 s9
      obtain ⟨e1, ee1, e10, e11⟩ : ∃ e1 : Int, atI [V.int 4, .int 12, .int 999] r2 = some (.int e1) ∧ 1 ≤ e1 ∧ e1 ≤ 999 := by
        have h : r2 = 0 ∨ r2 = 1 ∨ r2 = 2 := by omega
        rcases h with rfl | rfl | rfl
        · exact ⟨_, rfl, by decide, by decide⟩
        · exact ⟨_, rfl, by decide, by decide⟩
        · exact ⟨_, rfl, by decide, by decide⟩
      refine ⟨a1, _, r2, _, rfl, rfl, SqL.of h1, ee1, b, e1, _, rfl, (by omega), (by omega), M.st, by omega, fun H10 g g0 g1 B10 s10 => ⟨_, _, rfl, rfl, ?_⟩⟩
      have M := M.drawn ap B10 s10
      clear h1 ee1
      refine ⟨_, rfl, .inl ⟨rfl, _, SqL.of M.hC⟩, _, rfl, _, rfl, b, 3, _, rfl, (by decide), (by decide), M.st, by omega, fun H11 c1 c10 c11 B11 s11 => ⟨_, _, rfl, rfl, ?_⟩⟩
      have M := M.drawn ap B11 s11
      refine ⟨_, rfl, b, 5, _, rfl, (by decide), (by decide), M.st, by omega, fun H12 c2 c20 c21 B12 s12 => ?_⟩
      have M := M.drawn ap B12 s12
      refine ⟨_, rfl, (by show 4 ≤ sizeLine; decide), fun t nt => ?_⟩
      have ft := off_new (o := .tup [.str z, .int (1 + c1), .int c2, .int (1 + g)]) M.live nt
      have M := M.put (o := .tup [.str z, .int (1 + c1), .int c2, .int (1 + g)]) nt
      generalize upd H12 t (.tup [.str z, .int (1 + c1), .int c2, .int (1 + g)]) = H13 at M ft ⊢
      have hv : Dp K (off H13 [C, W, b]) (.ref t) (colD (z, 1 + c1, c2, 1 + g)) := .tup (.inl (.inl ft)) (.cons (.str _) (.cons (.int _) (.cons (.int _) (.cons (.int _) .nil))))
      have lxs : xs.length = i := by rw [dpAll_map_len M.dC]; exact lcs
      refine ⟨C, _, _, rfl, rfl, M.hC, (by rw [lxs]; exact Nat.lt_of_lt_of_le (show i < 12 by omega) (by decide)), ?_⟩
      have M := M.colour ap hv
      generalize upd H13 C (.lst (xs ++ [.ref t])) = H14 at M ⊢
      have ok : PalOk (cs ++ [((z, 1 + c1, c2, 1 + g) : Col)]) ws := ok.addC (c := (z, 1 + c1, c2, 1 + g)) (by omega) ⟨Nat.le_trans nzz.1.1 (by decide), wd_codes nzz.1, by show (1 + c1).natAbs < 10000; omega, by show c2.natAbs < 10000; omega, by show (1 + g).natAbs < 10000; omega⟩
      have ch2 : ∀ c ∈ cs ++ [((z, 1 + c1, c2, 1 + g) : Col)], (1 ≤ c.2.1 ∧ c.2.1 ≤ 3 ∧ 0 ≤ c.2.2.1 ∧ c.2.2.1 ≤ 4 ∧ 1 ≤ c.2.2.2 ∧ c.2.2.2 ≤ 999) ∧ Nm c.1 := fun x hx => by
        rcases List.mem_append.mp hx with h | h
        · exact ch x h
        · rw [List.mem_singleton.mp h]
          exact ⟨⟨by show 1 ≤ 1 + c1; omega, by show 1 + c1 ≤ 3; omega, c20, by show c2 ≤ 4; omega, by show 1 ≤ 1 + g; omega, by show 1 + g ≤ 999; omega⟩, nzz⟩
      have lcn2 : (cs ++ [((z, 1 + c1, c2, 1 + g) : Col)]).map (fun c => c.1) = zs.take (i + 1) := by rw [List.map_append, lcn, List.take_add_one, gz]; rfl
      have lc2 : (cs ++ [((z, 1 + c1, c2, 1 + g) : Col)]).length = i + 1 := by rw [List.length_append, lcs]; rfl
      generalize cs ++ [((z, 1 + c1, c2, 1 + g) : Col)] = cs at M ok ch2 lc2 lcn2 ⊢
      generalize xs ++ [V.ref t] = xs at M ⊢
      have M := M.mono (show _ ≤ n + 25 + 22 * i by omega)
      refine ⟨_, rfl, N, rfl, ⟨_, SqL.of (at_off M.hN)⟩, ?_⟩
      refine for_it (walk_list (xs := zs.map V.str)) (fun j σ H6 => ∃ v7 v8 us ws, σ = [some (.ref b), some (.int (mo : Nat)), some (.ref N), some (.ref C), some (.ref W), some (.str z), some (.int (1 + g)), v7, v8] ∧ PMc K H b C W N zs (n + 25 + 22 * i + 3 * j) xs us cs ws H6 ∧ PalOk cs ws ∧ ws.length ≤ 6 * i + j ∧ ∀ r ∈ ws, (∀ i, r.2.2 = some i → 0 ≤ i ∧ i ≤ 3) ∧ Nm r.1 ∧ Nm r.2.1)
        ⟨_, _, us, ws, rfl, M, ok, lws, wa⟩ (fun j σ H6 _ h => by obtain ⟨_, _, _, _, _, M, _⟩ := h; exact SqL.of (at_off M.hN)) ?_ ?_
      · clear ok M wa lws
        rintro j x σ H15 H16 hj ⟨v7, v8, us, ws, rfl, M, ok, lws, wa⟩ ⟨rfl, gx⟩
        rw [List.getElem?_map] at gx
        obtain ⟨y, gy, rfl⟩ := Option.map_eq_some_iff.mp gx
        have hj2 : j < m := by have := (List.getElem?_eq_some_iff.mp gy).1; omega
        have nyy := nz y (List.mem_of_getElem? gy)
        refine ⟨_, rfl, _, rfl, rfl, _, rfl, ite2 (fun h1 => ?_) (fun h1 => ?_)⟩
        · refine ⟨_, rfl, b, 3, _, rfl, (by decide), (by decide), M.st, by omega, fun H17 r3 r30 r31 B17 s17 => ⟨rfl, _, rfl, ite2 (fun h2 => ?_) (fun h2 => ?_)⟩⟩
          · have M := M.drawn ap B17 s17
            refine ⟨_, rfl, b, 4, _, rfl, (by decide), (by decide), M.st, by omega, fun H18 r4 r40 r41 B18 s18 => ⟨rfl, ?_⟩⟩
            have M := M.drawn ap B18 s18
            generalize decide (V.int r4 = V.int 0) = kb
            have fin : ∀ (H19 : Hp) (o : Option Int), PMc K H b C W N zs (n + 25 + 22 * i + 3 * j + 3) xs us cs ws H19 → (∀ i, o = some i → 0 ≤ i ∧ i ≤ 3) → ∀ t, H19 t = none →
                (∃ v7 v8 us2 ws2, [some (V.ref b), some (.int (mo : Nat)), some (.ref N), some (.ref C), some (.ref W), some (.str z), some (.int (1 + g)), some (.str y), some (.bl kb)] = [some (V.ref b), some (.int (mo : Nat)), some (.ref N), some (.ref C), some (.ref W), some (.str z), some (.int (1 + g)), v7, v8] ∧
                  PMc K H b C W N zs (n + 25 + 22 * i + 3 * (j + 1)) xs us2 cs ws2 (upd (upd H19 t (.tup [.str z, .str y, optV o])) W (.lst (us ++ [.ref t]))) ∧ PalOk cs ws2 ∧ ws2.length ≤ 6 * i + (j + 1) ∧ ∀ r ∈ ws2, (∀ i, r.2.2 = some i → 0 ≤ i ∧ i ≤ 3) ∧ Nm r.1 ∧ Nm r.2.1) ∧ us.length < sizeLine ∧ upd H19 t (.tup [.str z, .str y, optV o]) W = some (.lst us) := by
              intro H19 o M ho t nt
              have ft := off_new (o := .tup [.str z, .str y, optV o]) M.live nt
              have M := M.put (o := .tup [.str z, .str y, optV o]) nt
              have hv : Dp K (off (upd H19 t (.tup [.str z, .str y, optV o])) [C, W, b]) (.ref t) (washD (z, y, o)) := .tup (.inl (.inl ft)) (.cons (.str _) (.cons (.str _) (.cons (opt_dp o) .nil)))
              have lus : us.length ≤ 60 := by rw [dpAll_map_len M.dW]; exact ok.nw
              refine ⟨⟨_, _, _, ws ++ [(z, y, o)], rfl, (M.wash ap hv).mono (by omega), ok.addW (r := (z, y, o)) (by omega) ⟨⟨Nat.le_trans nzz.1.1 (by decide), wd_codes nzz.1⟩, ⟨Nat.le_trans nyy.1.1 (by decide), wd_codes nyy.1⟩, fun i hi => by have := ho i hi; omega⟩, by rw [List.length_append]; show _ + 1 ≤ _; omega, fun r hr => ?_⟩, Nat.lt_of_le_of_lt lus (by decide), M.hW⟩
              rcases List.mem_append.mp hr with h | h
              · exact wa r h
              · rw [List.mem_singleton.mp h]; exact ⟨ho, nzz, nyy⟩
            refine ⟨_, rfl, .inl ⟨rfl, _, SqL.of M.hW⟩, _, rfl, _, rfl, _, rfl, kb, rfl, ?_⟩
            cases kb with
            | true =>
              refine iteT ⟨(by show 3 ≤ sizeLine; decide), fun t nt => ?_⟩
              obtain ⟨r1, r2, r3⟩ := fin _ none (M.mono (by omega)) (fun _ h => by cases h) t nt
              exact ⟨W, _, _, rfl, rfl, r3, r2, r1⟩
            | false =>
              refine iteF ⟨_, rfl, b, 4, _, rfl, (by decide), (by decide), M.st, by omega, fun H19 r5 r50 r51 B19 s19 => ⟨(by show 3 ≤ sizeLine; decide), fun t nt => ?_⟩⟩
              have M := M.drawn ap B19 s19
              obtain ⟨r1, r2, r3⟩ := fin _ (some r5) (M.mono (by omega)) (fun _ h => by cases h; omega) t nt
              exact ⟨W, _, _, rfl, rfl, r3, r2, r1⟩
          · have M := M.drawn ap B17 s17
            exact ⟨_, _, us, ws, rfl, M.mono (by omega), ok, by omega, wa⟩
        · exact ⟨_, _, us, ws, rfl, M.mono (by omega), ok, by omega, wa⟩
      · rintro σ H15 ⟨v7, v8, us, ws, rfl, M, ok, lws, wa⟩
        rw [List.length_map, lz] at M lws
        exact ⟨_, _, _, _, xs, us, cs, ws, rfl, M.mono (by omega), ok, ⟨lc2, lcn2⟩, by omega, ch2, wa⟩
    · rintro σ H6 ⟨v5, v6, v7, v8, xs, us, cs, ws, rfl, M, ok, ⟨lcs, lcn⟩, lws, ch, wa⟩
      rw [List.length_map, lz] at M lcs lws lcn
      rw [← lz, List.take_length] at lcn
      have B := M.st
      refine ⟨_, rfl, C, _, rfl, .inl ⟨SqL.of M.hC, fun p np => ?_⟩⟩
      have fp := off_new (o := .tup xs) M.live np
      have M := M.put (o := .tup xs) np
      generalize upd H6 p (.tup xs) = H7 at fp M ⊢
      refine ⟨_, rfl, W, _, rfl, .inl ⟨SqL.of M.hW, fun p2 np2 => ?_⟩⟩
      have fp2 := off_new (o := .tup us) M.live np2
      have fp := sm_put (S := [C, W, b]) (o := .tup us) np2 _ _ fp
      have M := M.put (o := .tup us) np2
      generalize upd H7 p2 (.tup us) = H8 at fp fp2 M ⊢
      refine ⟨(by show 2 ≤ sizeLine; decide), fun p3 np3 => ?_⟩
      have fp3 := off_new (o := .tup [.ref p, .ref p2]) M.live np3
      have fp := sm_put (S := [C, W, b]) (o := .tup [.ref p, .ref p2]) np3 _ _ fp
      have fp2 := sm_put (S := [C, W, b]) (o := .tup [.ref p, .ref p2]) np3 _ _ fp2
      have M := M.put (o := .tup [.ref p, .ref p2]) np3
      generalize upd H8 p3 (.tup [.ref p, .ref p2]) = H9 at fp fp2 fp3 M ⊢
      have om : Same (off H9 [C, W, b]) (off H9 [b]) := off_mono (by simp)
      exact q _ _ cs ws (M.st.mono (by omega)) M.sm (dp_same om (.tup (.inl (.inl fp3)) (.cons (.tup (.inl (.inl fp)) M.dC) (.cons (.tup (.inl (.inl fp2)) M.dW) .nil)))) ⟨ok, by omega, by omega, fun c hc => (ch c hc).1, fun c hc => (ch c hc).2, wa⟩ (by rw [lcn]; exact hz.nodup_iff.mpr yn)

end
end Pot

namespace Pot
open PySem PySem.Spec PyProof.Rows L2
section
variable {P : Program} {w : World} {K : PySem.W.Frag} {mg : Str → Option Value} {base : Heap}
/-! ### colour_row: the first colour so called -/
abbrev s_colour_row : Stmt := topS 9
def n_colour_row : List Str := ["palette", "colour", "row"]
theorem sc_colour_row : FnScope n_colour_row ["palette", "colour"] (defScope s_colour_row) := ⟨rfl, rfl, rfl, by decide +kernel, rfl, by decide +kernel, by decide +kernel⟩
def colF (cs : List Col) (z : Str) : Option Col := cs.find? fun c => decide (c.1 = z)
def spColour (K : PySem.W.Frag) : Sp := fun vs H Q _ => ∃ (v : V) (cs : List Col) (ws : List Wsh) (z : Str), vs = [v, .str z] ∧ Dp K H v (palD cs ws) ∧ (∃ c ∈ cs, c.1 = z) ∧
  ∀ (x : V) (c : Col), colF cs z = some c → Dp K H x (colD c) → Q x H
theorem ok_colour {f : Addr} {fd : FuncData} {k : Nat} (F : Fun K "colour_row" "colour_row" s_colour_row f fd) : FnOk P w K mg base CX0 (k + 1) f fd ["palette", "colour"] (spColour K) := by
  refine F.ok sc_colour_row (fun vs H Q E h => ?_) (fun cdv A outer s H vs Q E hr h => ?_)
  · obtain ⟨v, cs, ws, z, rfl, _⟩ := h
    rfl
  · obtain ⟨v, cs, ws, z, rfl, hp, hin, q⟩ := h
    have nd := sc_colour_row.nd
    obtain ⟨p, c, w2, xs, ys, rfl, hp, hc, hx, hw, hy⟩ := pal_dp hp
    refine ⟨_, (pss_cons (ps_for PassesOwn.never rfl (ki_tup (K := K) (pe_ix (kx_tup (K := K)) (pv 0) pe_int (fun _ _ => rfl))) (pg_name (i := 2) nd rfl (.inl rfl))
          (pss_one (ps_if (pt_cmpR op_eq (pe_ix (kx_tup (K := K)) (pv 2) pe_int (fun _ _ => rfl)) (pv 1) (nomark _))
              (pss_one (ps_ret (pv 2)))
              pss_nil)))
      (pss_one ps_never)), ?_⟩
    refine ⟨_, rfl, p, _, 0, .ref c, rfl, rfl, hp, rfl, c, rfl, ⟨_, hc⟩, ?_⟩
    refine for_it (walk_tup (xs := xs)) (fun i σ H2 => ∃ v2, σ = [some (.ref p), some (.str z), v2] ∧ H2 = H ∧ ∀ j d, j < i → cs[j]? = some d → d.1 ≠ z) ⟨none, rfl, rfl, fun j d hj => absurd hj (Nat.not_lt_zero _)⟩ (fun i σ H2 _ h => by obtain ⟨_, _, rfl, _⟩ := h; exact hc) ?_ ?_
    · rintro i x σ H2 H3 hi ⟨v2, rfl, rfl, old⟩ ⟨rfl, gx⟩
      obtain ⟨d, gd, dp⟩ := dpAll_map_at hx gx
      obtain ⟨r, rfl, hr2⟩ := col_dp dp
      refine ⟨_, rfl, r, _, 0, _, rfl, rfl, hr2, rfl, _, rfl, rfl, _, rfl, ?_⟩
      rw [decS]
      refine ite2 (fun hb => ?_) (fun hb => ?_)
      · refine ⟨_, rfl, q _ d ?_ dp⟩
        unfold colF
        obtain ⟨hl, e⟩ := List.getElem?_eq_some_iff.mp gd
        rw [List.find?_eq_some_iff_getElem]
        exact ⟨hb, i, hl, e, fun j hj => by
          have := old j _ hj (List.getElem?_eq_getElem (by omega))
          simp [this]⟩
      · refine ⟨_, rfl, rfl, fun j e hj ge => ?_⟩
        by_cases hji : j = i
        · subst hji
          rw [gd] at ge
          cases ge
          exact fun z => hb (decide_eq_true z)
        · exact old j e (by omega) ge
    · rintro σ H2 ⟨v2, rfl, rfl, old⟩
      obtain ⟨d, hd, e⟩ := hin
      obtain ⟨j, hj, rfl⟩ := List.mem_iff_getElem.mp hd
      exact old j _ (by rw [dpAll_map_len hx]; exact hj) (List.getElem?_eq_getElem hj) e

/-! ### the law's own washings -/
abbrev s__law_wash : Stmt := topS 22
def n__law_wash : List Str := ["_law_palette_here", "_law_ahead", "_law_behind", "_law_hours", "_law_row"]
theorem sc__law_wash : FnScope n__law_wash ["_law_palette_here", "_law_ahead", "_law_behind"] (defScope s__law_wash) := ⟨rfl, rfl, rfl, by decide +kernel, rfl, by decide +kernel, by decide +kernel⟩
def spLWash (K : PySem.W.Frag) : Sp := fun vs H Q _ => ∃ (v : V) (cs : List Col) (ws : List Wsh) (a : Option Str) (b : Str), vs = [v, namV a, .str b] ∧ Dp K H v (palD cs ws) ∧ PalOk cs ws ∧ (∀ z, a = some z → Nm z) ∧ Nm b ∧ ∀ H', Same H H' → Q (optV (washF ws a b)) H'
theorem ok_lwash {f : Addr} {fd : FuncData} {k : Nat} (F : Fun K "_law_wash" "_law_wash" s__law_wash f fd) : FnOk P w K mg base CX0 (k + 1) f fd ["_law_palette_here", "_law_ahead", "_law_behind"] (spLWash K) := by
  refine F.ok sc__law_wash (fun vs H Q E h => ?_) (fun cdv A outer s H vs Q E hr h => ?_)
  · obtain ⟨v, cs, ws, a, b, rfl, _⟩ := h
    rfl
  · obtain ⟨v, cs, ws, a, b, rfl, hp, ok, la, lb, q⟩ := h
    have nd := sc__law_wash.nd
    have hu64 := hr.units
    /- 0 _law_palette_here, 1 _law_ahead, 2 _law_behind, 3 _law_hours, 4 _law_row -/
    obtain ⟨p, c, w2, xs, ys, rfl, hp, hc, hx, hw, hy⟩ := pal_dp hp
    refine ⟨_, (pss_cons (ps_setLc (i := 3) (own := [("_law_row", 4)]) rfl nd rfl rfl (sw_true rfl rfl rfl (by decide +kernel)) (ki_tup (K := K) (pe_ix (kx_tup (K := K)) (pv 0) pe_int (fun _ _ => rfl))) (blkOk_by (N := n__law_wash) (sc := defScope s__law_wash) (by decide +kernel)) (fun _ _ _ _ _ => (pg_name (i := 4) nd rfl (.inl rfl))) (fun _ _ _ _ _ => (pts_one (pt_cmpR (ko_eq (K := K) hu64) (pe_slice (kl_tup (K := K)) (pv 4) po_none (po_some pe_int)) (pe_tup (pa_cons (pv 1) (pa_cons (pv 2) pa_nil))) (nomark _)))) (fun _ _ _ _ _ => (pe_ix (kx_tup (K := K)) (pv 4) pe_int (fun _ _ => rfl))))
      (pss_one (ps_ret (pe_ifExp (pt_cmpR (ko_ne (K := K) hu64) (pv 3) (pe_lst pa_nil) (nomark _)) (pe_ix (kx_list (K := K)) (pv 3) pe_int (fun _ _ => rfl)) pe_int)))), ?_⟩
    refine ⟨_, rfl, p, _, 1, .ref w2, rfl, rfl, hp, rfl, w2, rfl, ⟨_, hw⟩, fun D nD => ?_⟩
    have lws : ys.length = ws.length := dpAll_map_len hy
    refine lc_it (walk_tup (xs := ys)) (fun i H2 => Same H H2 ∧ H2 D = some (.lst (((ws.take i).filter (mat a b)).map fun r => optV r.2.2))) ⟨same_upd nD, upd_same⟩ (fun i H2 _ h => same_tup h.1 hw) ?_ ?_
    · rintro i x H2 H3 hi ⟨sm, hD⟩ ⟨rfl, gx⟩
      obtain ⟨r, gr, dp⟩ := dpAll_map_at hy gx
      obtain ⟨t, rfl, ht⟩ := wash_dp dp
      have rok := ok.wn r (List.mem_of_getElem? gr)
      have sg : ∀ {z : Str}, Nm z → ∀ x ∈ z.cps.toList, x < 1114112 := fun h x hx => Nat.lt_trans (h.ascii x hx) (by decide)
      have ht3 := same_tup sm ht
      have ec : cutV [V.str r.1, .str r.2.1, optV r.2.2] none (some 2) = [V.str r.1, .str r.2.1] := by rw [show (2 : Int) = ((2 : Nat) : Int) from rfl, cut_head]; rfl
      refine ⟨rfl, _, rfl, 2, rfl, t, _, rfl, ht3, (fun h => absurd h.2 (by rw [show (2 : Int) = ((2 : Nat) : Int) from rfl, HT.sIx_nat]; exact (by decide : ¬ min 2 3 = 3))), fun _ t1 n1 => ?_⟩
      rw [ec]
      refine ⟨_, rfl, _, rfl, (by show 2 ≤ sizeLine; decide), fun t2 n2 => ?_⟩
      have sm2 := same_upd (o := .tup [.str r.1, .str r.2.1]) n1
      have sm3 := same_upd (o := .tup [namV a, .str b]) n2
      have h1 : upd (upd H3 t1 (.tup [.str r.1, .str r.2.1])) t2 (.tup [namV a, .str b]) t1 = some (.tup [.str r.1, .str r.2.1]) := sm3 _ _ upd_same
      have h2 : upd (upd H3 t1 (.tup [.str r.1, .str r.2.1])) t2 (.tup [namV a, .str b]) t2 = some (.tup [namV a, .str b]) := upd_same
      have sm4 := sm.trans (sm2.trans sm3)
      have hD2 := sm3 _ _ (sm2 _ _ hD)
      generalize upd (upd H3 t1 (.tup [.str r.1, .str r.2.1])) t2 (.tup [namV a, .str b]) = H4 at h1 h2 sm4 hD2 ⊢
      refine ⟨.tuple [.str r.1, .str r.2.1], .tuple [namD a, .str b], .tup (.inl (.inl h1)) (.cons (.str _) (.cons (.str _) .nil)), .tup (.inl (.inl h2)) (.cons (nam_dp a) (.cons (.str _) .nil)), shaped_two rok.1.2 rok.2.1.2, shaped_nam (fun z e => sg (la z e)) (sg lb), _, rfl, ?_⟩
      rw [eqv_mat]
      rw [List.take_add_one, gr, Option.toList_some, List.filter_append]
      cases hm : mat a b r with
      | true =>
        rw [if_pos rfl]
        refine ⟨_, rfl, t, _, 2, _, rfl, rfl, same_tup sm4 ht, rfl, _, hD2, ?_, same_put sm4 nD, ?_⟩
        · rw [List.length_map]
          refine Nat.lt_of_le_of_lt (Nat.le_trans (List.length_filter_le ..) (List.length_take_le' ..)) ?_
          exact Nat.lt_of_le_of_lt ok.nw (by decide)
        · rw [upd_same]; simp [hm]
      | false =>
        rw [if_neg Bool.false_ne_true]
        refine ⟨sm4, ?_⟩
        rw [hD2]; simp [hm]
    · rintro H2 ⟨sm, hD⟩
      rw [lws, List.take_length] at hD
      refine ⟨_, rfl, Nat.zero_le _, fun e ne => ?_⟩
      have sm2 := same_upd (o := .lst []) ne
      have hD := sm2 _ _ hD
      have he : upd H2 e (.lst []) e = _ := upd_same
      have sm := sm.trans sm2
      generalize upd H2 e (.lst []) = H3 at sm hD he ⊢
      refine ⟨.list ((ws.filter (mat a b)).map fun r => optD r.2.2), .list [], .lst (SqL.of hD) (dpAll_opts _), .lst (SqL.of he) .nil, shaped_opts _, shaped_opts ([] : List Wsh), _, rfl, ?_⟩
      rw [washF_filter] at q
      cases ef : ws.filter (mat a b) with
      | nil =>
        rw [ef] at q
        show if (!PyData.eqv (.list []) (.list [])) = true then _ else _
        rw [if_neg (by intro z; cases z)]
        exact q _ sm
      | cons r l =>
        rw [ef] at q hD
        show if (!PyData.eqv (.list (optD r.2.2 :: l.map fun r => optD r.2.2)) (.list [])) = true then _ else _
        rw [if_pos (by rfl)]
        exact ⟨_, rfl, D, _, 0, _, rfl, rfl, SqL.of hD, atI_nat (j := 0) rfl, q _ sm⟩
/-! ### the law's own hours of a colour -/
def hrD (c : Col) : PyData := .tuple [.int c.2.1, .int c.2.2.1]
theorem colF_head {cs : List Col} {b : Str} {c : Col} (h : colF cs b = some c) : ∃ l, cs.filter (fun c => decide (c.1 = b)) = c :: l := by
  unfold colF at h
  rw [← List.head?_filter] at h
  cases e : cs.filter (fun c => decide (c.1 = b)) with
  | nil => rw [e] at h; cases h
  | cons x l => rw [e] at h; cases h; exact ⟨l, rfl⟩

end
end Pot

namespace Pot
open PySem PySem.Spec PyProof.Rows L2
/-! ### a list that is filled while there is drawn and counted -/
structure Cnt (kvs : List (Key × V)) (n : Nat) : Prop where
  v : ∀ k x, valV kvs k = some x → ∃ i : Int, x = .int i
  l : kvs.length ≤ n
structure Dst (K : PySem.W.Frag) (H0 : Hp) (b D R : Addr) (fs : List (V × PyData)) (n : Nat) (us : List V) (ds : List PyData) (kvs : List (Key × V)) (H : Hp) : Prop where
  st : Bp H b n
  sm : Sm [D, b] H0 H
  Rb : R ≠ b
  RD : R ≠ D
  Db : D ≠ b
  nR : H0 R = none
  fr : ∀ p ∈ fs, Dp K (off H [R, D, b]) p.1 p.2
  hR : H R = some (.lst us)
  dR : DpAll K (off H [R, D, b]) us ds
  hD : H D = some (.dK kvs)
section
variable {K : PySem.W.Frag} {H0 H H' : Hp} {b D R p : Addr} {fs : List (V × PyData)} {n m : Nat} {us : List V} {ds : List PyData} {kvs kvs' : List (Key × V)} {o : HO}
theorem sm_two' {S : List Addr} {x y : Addr} (h1 : x ∈ S) (h2 : y ∈ S) (s : Sm [x, y] H H') : Sm S H H' := sm_mono (fun z hz => by
  rcases List.mem_cons.mp hz with e | e
  · rw [e]; exact h1
  · rw [List.mem_singleton.mp e]; exact h2) s
theorem Dst.live (M : Dst K H0 b D R fs n us ds kvs H) : Live [R, D, b] H := ((Live.pw M.st).cons M.hD).cons M.hR
theorem Dst.drawn (M : Dst K H0 b D R fs n us ds kvs H) (st : Bp H' b m) (s : Sm [b] H H') : Dst K H0 b D R fs m us ds kvs H' :=
  have s2 : Sm [R, D, b] H H' := sm_one (by simp) s
  ⟨st, M.sm.trans (sm_one (by simp) s), M.Rb, M.RD, M.Db, M.nR, fun q hq => dp_same s2 (M.fr q hq), sm1_at s M.Rb M.hR, dpAll_same s2 M.dR, sm1_at s M.Db M.hD⟩
theorem Dst.same (M : Dst K H0 b D R fs n us ds kvs H) (s : Same H H') : Dst K H0 b D R fs n us ds kvs H' :=
  have s2 : Sm [R, D, b] H H' := sm_of s
  ⟨M.st.same s, M.sm.trans (sm_of s), M.Rb, M.RD, M.Db, M.nR, fun q hq => dp_same s2 (M.fr q hq), s _ _ M.hR, dpAll_same s2 M.dR, s _ _ M.hD⟩
theorem Dst.put (M : Dst K H0 b D R fs n us ds kvs H) (h : H p = none) : Dst K H0 b D R fs n us ds kvs (upd H p o) := M.same (same_upd h)
theorem Dst.mono (M : Dst K H0 b D R fs n us ds kvs H) (h : n ≤ m) : Dst K H0 b D R fs m us ds kvs H := ⟨M.st.mono h, M.sm, M.Rb, M.RD, M.Db, M.nR, M.fr, M.hR, M.dR, M.hD⟩
theorem Dst.app (M : Dst K H0 b D R fs n us ds kvs H) {v : V} {d : PyData} (hv : Dp K (off H [R, D, b]) v d) : Dst K H0 b D R fs n (us ++ [v]) (ds ++ [d]) kvs (upd H R (.lst (us ++ [v]))) :=
  have s2 : Sm [R, D, b] H (upd H R (.lst (us ++ [v]))) := sm_wr (by simp)
  ⟨M.st.wr M.Rb, smp M.sm M.nR, M.Rb, M.RD, M.Db, M.nR, fun q hq => dp_same s2 (M.fr q hq), upd_same, dpAll_same s2 (dpAll_app M.dR (.cons hv .nil)), by rw [upd_ne M.RD.symm]; exact M.hD⟩
theorem Dst.cnt (M : Dst K H0 b D R fs n us ds kvs H) : Dst K H0 b D R fs n us ds kvs' (upd H D (.dK kvs')) :=
  have s2 : Sm [R, D, b] H (upd H D (.dK kvs')) := sm_wr (by simp)
  ⟨M.st.wr M.Db, M.sm.trans (sm_wr (by simp)), M.Rb, M.RD, M.Db, M.nR, fun q hq => dp_same s2 (M.fr q hq), by rw [upd_ne M.RD]; exact M.hR, dpAll_same s2 M.dR, upd_same⟩
theorem Dst.start (B : Bp H b n) (hD : H D = some (.dK kvs)) (Db : D ≠ b) (s : Sm [D, b] H0 H) (h : H R = none) (fr : ∀ p ∈ fs, Dp K (off H [D, b]) p.1 p.2) : Dst K H0 b D R fs n [] [] kvs (upd H R (.lst [])) := by
  have RD : R ≠ D := (ne_of_none hD h).symm
  have nR : H0 R = none := by
    cases e : H0 R with
    | none => rfl
    | some o =>
      have := sm_at s (x := R) (by simp [RD, B.ne h]) e
      rw [this] at h; cases h
  refine ⟨B.put h, s.trans (sm_put h), B.ne h, RD, Db, nR, fun q hq => ?_, upd_same, .nil, by rw [upd_ne RD.symm]; exact hD⟩
  have e : off (upd H R (.lst [])) [R, D, b] = off H [D, b] := off_fresh h
  rw [e]; exact fr q hq
theorem Dst.new (M : Dst K H0 b D R fs n us ds kvs H) (h : H p = none) : off (upd H p o) [R, D, b] p = some o := off_new M.live h
theorem Dst.done (M : Dst K H0 b D R fs n us ds kvs H) : Dp K (off H [D, b]) (.ref R) (.list ds) :=
  .lst (SqL.of (by rw [off_out (by simp [M.Rb, M.RD])]; exact M.hR)) (dpAll_same (off_mono (by simp)) M.dR)
theorem Dst.kept (M : Dst K H0 b D R fs n us ds kvs H) {q : V × PyData} (h : q ∈ fs) : Dp K (off H [D, b]) q.1 q.2 := dp_same (off_mono (by simp)) (M.fr q h)
end
theorem Cnt.put {kvs : List (Key × V)} {n : Nat} (c : Cnt kvs n) (k : Key) (i : Int) : Cnt (putK kvs k (.int i)) (n + 1) := by
  refine ⟨fun k' x h => ?_, Nat.le_trans (length_putK kvs k _) (Nat.succ_le_succ c.l)⟩
  rw [valV_put] at h
  by_cases e : k' = k
  · rw [if_pos e] at h
    exact ⟨i, (Option.some.inj h).symm⟩
  · rw [if_neg e] at h
    exact c.v k' x h
theorem Cnt.get {kvs : List (Key × V)} {n : Nat} (c : Cnt kvs n) (k : Key) : ∃ i : Int, (valV kvs k).getD (.int 0) = .int i := by
  cases h : valV kvs k with
  | none => exact ⟨0, rfl⟩
  | some x => exact c.v k x h
theorem Cnt.nil : Cnt [] 0 := ⟨fun k x h => (by cases h), Nat.le_refl _⟩
theorem Cnt.mono {kvs : List (Key × V)} {n m : Nat} (c : Cnt kvs n) (h : n ≤ m) : Cnt kvs m := ⟨c.v, Nat.le_trans c.l h⟩

section
variable {P : Program} {w : World} {K : PySem.W.Frag} {mg : Str → Option Value} {base : Heap}
/-! ### the turns of a pot -/
abbrev Trn : Type := Int × Str × Int × Int
def trD (t : Trn) : PyData := .tuple [.int t.1, .str t.2.1, .int t.2.2.1, .int t.2.2.2]
structure TrOk (cs : List Col) (t : Trn) : Prop where
  a : 0 ≤ t.1 ∧ t.1 < t.2.2.1
  b : t.2.2.1 < t.2.2.2 ∧ t.2.2.2 ≤ 60
  c : ∃ c ∈ cs, c.1 = t.2.1
theorem washF_ok {ws : List Wsh} {a : Option Str} {b : Str} {i : Int} (h : ∀ r ∈ ws, ∀ i, r.2.2 = some i → 0 ≤ i ∧ i ≤ 3) (e : washF ws a b = some i) : 0 ≤ i ∧ i ≤ 3 := by
  induction ws with
  | nil => cases e; decide
  | cons r ws ih =>
    replace e : (if some r.1 = a ∧ r.2.1 = b then r.2.2 else washF ws a b) = some i := e
    by_cases c : some r.1 = a ∧ r.2.1 = b
    · rw [if_pos c] at e
      exact h r List.mem_cons_self i e
    · rw [if_neg c] at e
      exact ih (fun r hr => h r (List.mem_cons_of_mem _ hr)) e
abbrev s__law_pot : Stmt := topS 23
def n__law_pot : List Str := ["_law_box_here", "_law_palette_here", "_law_counts", "_law_found", "_law_free", "_law_last", "_law_turn", "_law_colour", "_law_charge", "_law_melt", "_law_gathers", "_law_wash_here", "_law_late", "_law_begin", "_law_end"]
theorem sc__law_pot : FnScope n__law_pot ["_law_box_here", "_law_palette_here", "_law_counts"] (defScope s__law_pot) := ⟨rfl, rfl, rfl, by decide +kernel, rfl, by decide +kernel, by decide +kernel⟩
def spPot (K : PySem.W.Frag) : Sp := fun vs H Q _ => ∃ (b D : Addr) (v : V) (cs : List Col) (ws : List Wsh) (n m : Nat) (kvs : List (Key × V)), vs = [.ref b, v, .ref D] ∧ Bp H b n ∧ n < 2 ^ 38 ∧ D ≠ b ∧ H D = some (.dK kvs) ∧ Cnt kvs m ∧ m < 10000 ∧ Dp K (off H [D, b]) v (palD cs ws) ∧ PalE cs ws ∧
  ∀ (H' : Hp) (L : Addr) (ts : List Trn) (kvs' : List (Key × V)), Bp H' b (n + 60) → Sm [D, b] H H' → H L = none → Dp K (off H' [D, b]) (.ref L) (.list (ts.map trD)) → ts.length ≤ 9 → (∀ t ∈ ts, TrOk cs t) → H' D = some (.dK kvs') → Cnt kvs' (m + 9) → Q (.ref L) H'
theorem ok_pot {f : Addr} {fd : FuncData} {k : Nat} (F : Fun K "_law_pot" "_law_pot" s__law_pot f fd) (T : Txt mg) (c__law_take : Cl P w K mg base (k + 1) "_law_take" spTake) (c__law_wash : Cl P w K mg base (k + 1) "_law_wash" (spLWash K)) : FnOk P w K mg base CX0 (k + 2) f fd ["_law_box_here", "_law_palette_here", "_law_counts"] (spPot K) := by
  refine F.ok sc__law_pot (fun vs H Q E h => ?_) (fun cdv A outer s H vs Q E hr h => ?_)
  · obtain ⟨b, D, v, cs, ws, n, m, kvs, rfl, _⟩ := h
    rfl
  · obtain ⟨b, D, v, cs, ws, n, m, kvs, rfl, B, hn, Db, hD, cnt, hm, dv, pal, q⟩ := h
    have nd := sc__law_pot.nd
    have hu : (A.deeper (envOfC (Str.ofString "_law_pot") (defScope s__law_pot) s.heap.objs.size f cdv)).units + 1 < cLine := by have := hr.units; omega
    /- 0 _law_box_here, 1 _law_palette_here, 2 _law_counts, 3 _law_found, 4 _law_free, 5 _law_last, 6 _law_turn, 7 _law_colour, 8 _law_charge, 9 _law_melt, 10 _law_gathers, 11 _law_wash_here, 12 _law_late, 13 _law_begin, 14 _law_end -/
    refine ⟨_, (pss_cons (ps_par3 (i := 3) (j := 4) (l := 5) rfl nd rfl rfl rfl (by decide) (by decide) (by decide) rfl rfl rfl (pa_cons (pe_lst pa_nil) (pa_cons (pe_cl c__law_take hr (by omega) (by rfl) (pa_cons (pv 0) (pa_cons pe_int pa_nil))) (pa_cons pe_non pa_nil))) rfl)
      (pss_cons (ps_for PassesOwn.never rfl (pi_range1 (by rfl) T.range (pa_cons pe_int pa_nil)) (pg_name (i := 6) nd rfl (.inl rfl))
          (pss_cons (ps_asg (pe_ix (kx_tup (K := K)) (pe_ix (kx_tup (K := K)) (pv 1) pe_int (fun _ _ => rfl)) (pe_cl c__law_take hr (by omega) (by rfl) (pa_cons (pv 0) (pa_cons (pe_callB (kc_len (K := K)) (by rfl) T.len PySem.boot_len (pa_cons (pe_ix (kx_tup (K := K)) (pv 1) pe_int (fun _ _ => rfl)) pa_nil)) pa_nil))) (fun _ _ => rfl)) (kg_tup (K := K) (n := 4) (pgs_cons (pg_name (i := 7) nd rfl (.inl rfl)) (pgs_cons (pg_name (i := 8) nd rfl (.inl rfl)) (pgs_cons (pg_name (i := 9) nd rfl (.inl rfl)) (pgs_cons (pg_name (i := 10) nd rfl (.inl rfl)) pgs_nil))))))
          (pss_cons (ps_par (i := 11) (j := 12) rfl nd rfl rfl (by decide) rfl rfl (pa_cons (pe_cl c__law_wash hr (by omega) (by rfl) (pa_cons (pv 1) (pa_cons (pv 5) (pa_cons (pv 7) pa_nil)))) (pa_cons (pe_cl c__law_take hr (by omega) (by rfl) (pa_cons (pv 0) (pa_cons pe_int pa_nil))) pa_nil)) rfl)
          (pss_one (ps_if ((pw_and (pt_cmpR op_notN (pv 11) pe_non (nomark _)) (pw_and1 (pt_cmpR op_lt (pe_dget2 hu (pv 2) (pv 7) pe_int ⟨rfl, rfl, rfl, rfl⟩) pe_int (nomark _))))).pt
              (pss_cons (ps_set (i := 13) nd rfl (.inl rfl) (pe_op op_add (pe_op op_add (pe_op op_add (pe_op op_add (pv 4) (pv 11)) (pv 8)) (pv 9)) (pv 12)))
              (pss_cons (ps_set (i := 14) nd rfl (.inl rfl) (pe_op op_add (pe_op op_add (pv 13) pe_int) (pe_cl c__law_take hr (by omega) (by rfl) (pa_cons (pv 0) (pa_cons (pe_ix (kx_list (K := K)) (pe_lst (pa_cons pe_int (pa_cons pe_int pa_nil))) (pe_cl c__law_take hr (by omega) (by rfl) (pa_cons (pv 0) (pa_cons pe_int pa_nil))) (fun _ _ => rfl)) pa_nil)))))
              (pss_one (ps_if (pt_cmpR op_le (pv 14) pe_int (nomark _))
                  (pss_cons (ps_expr (pe_bm PySem.F.plainAttrs_list PySem.F.slot_list_append PySem.F.type_list_append mt_append (pv 3) (pa_cons (pe_tup (pa_cons (pe_op op_add (pv 4) (pv 11)) (pa_cons (pv 7) (pa_cons (pv 13) (pa_cons (pv 14) pa_nil))))) pa_nil)))
                  (pss_cons (ps_dput hu (pv 2) (pv 7) (pe_op op_add (pe_dget2 hu (pv 2) (pv 7) pe_int ⟨rfl, rfl, rfl, rfl⟩) pe_int) rfl)
                  (pss_one (ps_par (i := 4) (j := 5) rfl nd rfl rfl (by decide) rfl rfl (pa_cons (pe_op op_add (pv 14) (pe_cl c__law_take hr (by omega) (by rfl) (pa_cons (pv 0) (pa_cons pe_int pa_nil)))) (pa_cons (pv 7) pa_nil)) rfl))))
                  pss_nil))))
              pss_nil)))))
      (pss_one (ps_ret (pv 3))))), ?_⟩
    refine ⟨Nat.zero_le _, fun R nR => ?_⟩
    have M := Dst.start (R := R) (fs := [(v, palD cs ws)]) B hD Db (Same.refl _) nR (fun p hp => by rw [List.mem_singleton.mp hp]; exact dv)
    generalize upd H R (.lst []) = H1 at M ⊢
    refine ⟨_, rfl, b, 8, _, rfl, (by decide), (by decide), M.st, by omega, fun H2 f0 f00 f01 B2 s2 => ⟨_, _, _, rfl, ?_⟩⟩
    have M := M.drawn B2 s2
    refine ⟨9, rfl, (by decide), (by decide), ?_⟩
    refine for_it walk_range (fun i σ Hx => ∃ (fr : Int) (la : Option Str) (v6 v7 v8 v9 v10 v11 v12 v13 v14 : Option V) (us : List V) (ts : List Trn) (kvs' : List (Key × V)), σ = [some (.ref b), some v, some (.ref D), some (.ref R), some (.int fr), some (namV la), v6, v7, v8, v9, v10, v11, v12, v13, v14] ∧ Dst K H b D R [(v, palD cs ws)] (n + 1 + 6 * i) us (ts.map trD) kvs' Hx ∧ ts.length ≤ i ∧ (∀ t ∈ ts, TrOk cs t) ∧ Cnt kvs' (m + i) ∧ 0 ≤ fr ∧ fr ≤ 100 ∧ ∀ z, la = some z → Nm z)
      ⟨f0, none, _, _, _, _, _, _, _, _, _, [], [], kvs, rfl, M, Nat.le_refl _, (fun _ h => (List.not_mem_nil h).elim), cnt, f00, by omega, fun _ h => by cases h⟩ (fun _ _ _ _ _ => trivial) ?_ ?_
    · clear M
      rintro i x σ H3 H4 hi ⟨fr, la, v6, v7, v8, v9, v10, v11, v12, v13, v14, us, ts, kvs', rfl, M, lts, tok, cnt, fr0, fr1, hla⟩ ⟨rfl, rfl⟩
      have hi9 : i < 9 := hi
      obtain ⟨p, ca, wa, xs, ys, ev, hp, hc, hx, hw, hy⟩ := pal_dp (M.fr (v, palD cs ws) (by simp))
      replace ev : v = .ref p := ev
      have lx : xs.length = cs.length := dpAll_map_len hx
      have lne := pal.ne
      have lle := pal.le
      rw [ev]
      refine ⟨_, rfl, p, _, 0, .ref ca, rfl, rfl, sqt_off hp, rfl, _, rfl, _, rfl, p, _, 0, .ref ca, rfl, rfl, sqt_off hp, rfl, _, _, rfl, .inr ⟨_, sqt_off hc, rfl⟩, b, _, _, rfl, (by omega), (by omega), M.st, by omega, fun H5 r r0 r1 B5 s5 => ?_⟩
      have s5' : Sm [R, D, b] H4 H5 := sm_one (by simp) s5
      have M := M.drawn B5 s5
      obtain ⟨j, rfl⟩ : ∃ j : Nat, r = (j : Int) := ⟨r.toNat, by omega⟩
      have hj : j < xs.length := by omega
      obtain ⟨c, gc, dpc⟩ := dpAll_map_at hx (List.getElem?_eq_getElem hj)
      obtain ⟨rr, er, hrr⟩ := col_dp (dp_same s5' dpc)
      have hcm := List.mem_of_getElem? gc
      obtain ⟨h1, h2, h3, h4, _, _⟩ := pal.ch c hcm
      have hnm := pal.wd c hcm
      refine ⟨ca, _, j, _, rfl, rfl, sqt_off (same_tup s5' hc), atI_nat (List.getElem?_eq_getElem hj), ?_⟩
      rw [er]
      refine ⟨rr, _, rfl, sqt_off hrr, rfl, _, _, rfl, _, _, rfl, _, _, rfl, _, _, rfl, rfl, ?_⟩
      refine ⟨_, rfl, _, rfl, _, rfl, .ref p, cs, ws, la, c.1, rfl, (by rw [← ev]; exact dp_off (M.fr (v, palD cs ws) (by simp))), pal.ok, hla, hnm, fun H6 s6 => ?_⟩
      have M := M.same s6
      refine ⟨_, rfl, b, 3, _, rfl, (by decide), (by decide), M.st, by omega, fun H7 lt l0 l1 B7 s7 => ⟨_, _, rfl, ?_⟩⟩
      have M := M.drawn B7 s7
      clear hp hc hx hw hy dpc hrr er s5 s6 s7
      rw [← ev]
      have skip : ∀ (v13 v14 : Option V) (ow : Option V), ∃ (fr' : Int) (la' : Option Str) (v6 v7 v8 v9 v10 v11' v12 v13' v14' : Option V) (us : List V) (ts : List Trn) (kvs' : List (Key × V)), [some (.ref b), some v, some (.ref D), some (.ref R), some (.int fr), some (namV la), some (.int (0 + (i : Int))), some (.str c.1), some (.int c.2.1), some (.int c.2.2.1), some (.int c.2.2.2), ow, some (.int lt), v13, v14] = [some (.ref b), some v, some (.ref D), some (.ref R), some (.int fr'), some (namV la'), v6, v7, v8, v9, v10, v11', v12, v13', v14'] ∧ Dst K H b D R [(v, palD cs ws)] (n + 1 + 6 * (i + 1)) us (ts.map trD) kvs' H7 ∧ ts.length ≤ i + 1 ∧ (∀ t ∈ ts, TrOk cs t) ∧ Cnt kvs' (m + (i + 1)) ∧ 0 ≤ fr' ∧ fr' ≤ 100 ∧ ∀ z, la' = some z → Nm z :=
        fun v13 v14 ow => ⟨fr, la, _, _, _, _, _, _, _, _, _, us, ts, kvs', rfl, M.mono (by omega), by omega, tok, cnt.mono (by omega), fr0, fr1, hla⟩
      refine ⟨_, rfl, rfl, _, rfl, ite2 (fun hn1 => ?_) (fun hn1 => ?_)⟩
      · obtain ⟨wi, ewi⟩ : ∃ wi, washF ws la c.1 = some wi := by
          cases hwf : washF ws la c.1 with
          | none => rw [hwf] at hn1; cases hn1
          | some wi => exact ⟨wi, rfl⟩
        have hwi := washF_ok (fun r hr => (pal.wa r hr).1) ewi
        have eov : optV (washF ws la c.1) = .int wi := by rw [ewi]; rfl
        rw [eov]
        obtain ⟨ci, eci⟩ := cnt.get (Sum.inr c.1)
        refine ⟨_, rfl, D, rfl, .inl ⟨_, .inl M.hD⟩, _, rfl, _, DGet.k (k := Sum.inr c.1) M.hD, ?_⟩
        rw [eci]
        refine ⟨_, _, rfl, rfl, _, rfl, ite2 (fun hn2 => ?_) (fun hn2 => ?_)⟩
        · refine ⟨_, rfl, _, rfl, _, _, rfl, rfl, _, rfl, _, _, rfl, rfl, _, rfl, _, _, rfl, rfl, _, rfl, _, _, rfl, rfl, ?_⟩
          refine ⟨_, rfl, _, _, rfl, rfl, _, rfl, (by show 2 ≤ sizeLine; decide), fun a1 na1 => ?_⟩
          have a1b := M.st.ne na1
          have M := M.put (o := .lst [.int 3, .int 12]) na1
          have g1 : upd H7 a1 (.lst [.int 3, .int 12]) a1 = some (.lst [.int 3, .int 12]) := upd_same
          generalize upd H7 a1 (.lst [.int 3, .int 12]) = H8 at M g1 ⊢
          refine ⟨_, rfl, b, 2, _, rfl, (by decide), (by decide), M.st, by omega, fun H9 r2 r20 r21 B9 s9 => ?_⟩
          have g1 := sm1_at s9 a1b g1
          have M := M.drawn B9 s9
          obtain ⟨e1, ee1, e10, e11⟩ : ∃ e1 : Int, atI [V.int 3, .int 12] r2 = some (.int e1) ∧ 1 ≤ e1 ∧ e1 ≤ 12 := by
            have h : r2 = 0 ∨ r2 = 1 := by omega
            rcases h with rfl | rfl
            · exact ⟨_, rfl, by decide, by decide⟩
            · exact ⟨_, rfl, by decide, by decide⟩
          refine ⟨a1, _, r2, _, rfl, rfl, SqL.of g1, ee1, b, e1, _, rfl, (by omega), (by omega), M.st, by omega, fun H10 g g0 g10 B10 s10 => ⟨_, _, rfl, rfl, ?_⟩⟩
          have M := M.drawn B10 s10
          obtain ⟨bg, ebg⟩ : ∃ bg, bg = fr + wi + c.2.1 + c.2.2.1 + lt := ⟨_, rfl⟩
          obtain ⟨en, een⟩ : ∃ en, en = bg + 1 + g := ⟨_, rfl⟩
          simp only []
          rw [← ebg, ← een]
          refine ⟨_, rfl, _, _, rfl, rfl, _, rfl, ite2 (fun hn3 => ?_) (fun hn3 => ?_)⟩
          · have hn3 := of_decide_eq_true hn3
            refine ⟨_, rfl, .inl ⟨rfl, _, SqL.of M.hR⟩, _, rfl, _, rfl, _, _, rfl, rfl, _, rfl, _, rfl, _, rfl, (by show 4 ≤ sizeLine; decide), fun t nt => ?_⟩
            have ft := M.new (o := .tup [.int (fr + wi), .str c.1, .int bg, .int en]) nt
            have M := M.put (o := .tup [.int (fr + wi), .str c.1, .int bg, .int en]) nt
            generalize upd H10 t (.tup [.int (fr + wi), .str c.1, .int bg, .int en]) = H11 at M ft ⊢
            have hv : Dp K (off H11 [R, D, b]) (.ref t) (trD (fr + wi, c.1, bg, en)) := .tup (.inl (.inl ft)) (.cons (.int _) (.cons (.str _) (.cons (.int _) (.cons (.int _) .nil))))
            have lus : us.length ≤ 9 := by rw [dpAll_map_len M.dR]; omega
            refine ⟨R, _, _, rfl, rfl, M.hR, Nat.lt_of_le_of_lt lus (by decide), ?_⟩
            have M := M.app hv
            generalize upd H11 R (.lst (us ++ [.ref t])) = H12 at M ⊢
            refine ⟨_, rfl, D, rfl, .inl ⟨_, .inl M.hD⟩, _, rfl, _, DGet.k (k := Sum.inr c.1) M.hD, ?_⟩
            rw [eci]
            refine ⟨_, _, rfl, rfl, _, rfl, _, rfl, D, _, rfl, DPut.k (k := Sum.inr c.1) M.hD (Nat.lt_of_le_of_lt cnt.l (by rw [sizeLine_eq]; omega)), ?_⟩
            have M := M.cnt (kvs' := putK kvs' (Sum.inr c.1) (.int (ci + 1)))
            generalize upd H12 D (.dK (putK kvs' (Sum.inr c.1) (.int (ci + 1)))) = H13 at M ⊢
            refine ⟨_, rfl, _, rfl, b, 3, _, rfl, (by decide), (by decide), M.st, by omega, fun H14 g2 g20 g21 B14 s14 => ⟨_, _, rfl, rfl, _, rfl, _, _, rfl, ?_⟩⟩
            have M := M.drawn B14 s14
            refine ⟨_, some c.1, _, _, _, _, _, _, _, _, _, _, ts ++ [(fr + wi, c.1, bg, en)], _, rfl, (by rw [List.map_append]; exact M.mono (by omega)), by rw [List.length_append]; show _ + 1 ≤ _; omega, fun x hx => ?_, cnt.put _ _, by omega, by omega, fun z hz => by cases hz; exact hnm⟩
            rcases List.mem_append.mp hx with h | h
            · exact tok x h
            · rw [List.mem_singleton.mp h]
              exact ⟨⟨by show 0 ≤ fr + wi; omega, by show fr + wi < bg; omega⟩, ⟨by show bg < en; omega, hn3⟩, c, hcm, rfl⟩
          · exact ⟨fr, la, _, _, _, _, _, _, _, _, _, us, ts, kvs', rfl, M.mono (by omega), by omega, tok, cnt.mono (by omega), fr0, fr1, hla⟩
        · exact skip _ _ _
      · exact skip _ _ _
    · rintro σ H3 ⟨fr, la, v6, v7, v8, v9, v10, v11, v12, v13, v14, us, ts, kvs', rfl, M, lts, tok, cnt, fr0, fr1, hla⟩
      exact ⟨_, rfl, q _ R ts kvs' (M.st.mono (by omega)) M.sm M.nR M.done lts tok M.hD cnt⟩

end
end Pot

namespace Pot
open PySem PySem.Spec PyProof.Rows L2
section
variable {P : Program} {w : World} {K : PySem.W.Frag} {mg : Str → Option Value} {base : Heap}
theorem go_offX {H : Hp} {S : List Addr} {R : Addr} {us : List V} (h : H R = some (.lst us)) (a : Addr) (zs : List V) (k : SqT K (off H S) a zs) : SqT K (off H (R :: S)) a zs := by
  have go : ∀ o, (off H S a = some (.tup zs) ∨ off H S a = some (.frz o (.tup zs))) → a ∉ R :: S := fun o e z => by
    rcases List.mem_cons.mp z with z | z
    · subst z
      rcases e with e | e
      · have := off_sub (S := S) _ _ e; rw [h] at this; cases this
      · have := off_sub (S := S) _ _ e; rw [h] at this; cases this
    · rcases e with e | e
      · exact off_mem e z
      · exact off_mem e z
  rcases k with (k | ⟨o, k⟩) | k
  · exact .inl (.inl (by rw [off_out (go ⟨.none, none, .fields #[], #[]⟩ (.inl k))]; exact off_sub _ _ k))
  · exact .inl (.inr ⟨o, by rw [off_out (go o (.inr k))]; exact off_sub _ _ k⟩)
  · exact .inr k
theorem seq_offX {H : Hp} {S : List Addr} {R a : Addr} {zs : List V} (n : a ≠ R) (k : SqL K (off H S) a zs) : SqL K (off H (R :: S)) a zs := by
  have go : ∀ o, off H S a = some o → off H (R :: S) a = some o := fun o e => by
    have h := off_mem e
    rw [off_out (by simp [n, h])]
    exact off_sub _ _ e
  rcases k with (k | ⟨o, k⟩) | k
  · exact .inl (.inl (go _ k))
  · exact .inl (.inr ⟨o, go _ k⟩)
  · exact .inr k
theorem dp_offX {H : Hp} {S : List Addr} {R : Addr} {us : List V} (h : H R = some (.lst us)) {v : V} {e : PyData} (n : noLAll.noL e) (p : Dp K (off H S) v e) : Dp K (off H (R :: S)) v e := dp_go (go_offX h) n p
theorem lst_offX {H : Hp} {S : List Addr} {R a : Addr} {us : List V} (h : H R = some (.lst us)) (ne : a ≠ R) {es : List PyData} (n : noLAll es) (p : Dp K (off H S) (.ref a) (.list es)) : Dp K (off H (R :: S)) (.ref a) (.list es) := by
  cases p with
  | lst hs ha => exact .lst (seq_offX ne hs) (dpAll_go (go_offX h) n ha)
theorem noL_trs (ts : List Trn) : noLAll (ts.map trD) := noL_map (f := trD) (fun t => (⟨trivial, trivial, trivial, trivial, trivial⟩ : noLAll.noL (trD t))) ts
theorem Dst.called {H0 H H' : Hp} {b D R : Addr} {fs : List (V × PyData)} {n m : Nat} {us : List V} {ds : List PyData} {kvs kvs' : List (Key × V)} (M : Dst K H0 b D R fs n us ds kvs H) (st : Bp H' b m) (s : Sm [D, b] H H') (hD : H' D = some (.dK kvs')) : Dst K H0 b D R fs m us ds kvs' H' :=
  have s2 : Sm [R, D, b] H H' := sm_two' (by simp) (by simp) s
  ⟨st, M.sm.trans s, M.Rb, M.RD, M.Db, M.nR, fun q hq => dp_same s2 (M.fr q hq), sm_at s (by simp [M.Rb, M.RD]) M.hR, dpAll_same s2 M.dR, hD⟩
def potD (ts : List Trn) : PyData := .list (ts.map trD)
def potsD (ps : List (List Trn)) : PyData := .list (ps.map potD)
structure PotsOk (cs : List Col) (ps : List (List Trn)) : Prop where
  l : ps.length ≤ 8
  e : ∀ p ∈ ps, p.length ≤ 9 ∧ ∀ t ∈ p, TrOk cs t
abbrev s__law_pots : Stmt := topS 24
def n__law_pots : List Str := ["_law_box_here", "_law_palette_here", "_law_most", "_law_counts", "_law_k"]
theorem sc__law_pots : FnScope n__law_pots ["_law_box_here", "_law_palette_here", "_law_most"] (defScope s__law_pots) := ⟨rfl, rfl, rfl, by decide +kernel, rfl, by decide +kernel, by decide +kernel⟩
def spPots (K : PySem.W.Frag) : Sp := fun vs H Q _ => ∃ (b : Addr) (v : V) (cs : List Col) (ws : List Wsh) (n : Nat), vs = [.ref b, v, .int 8] ∧ Bp H b n ∧ n < 2 ^ 37 ∧ Dp K (off H [b]) v (palD cs ws) ∧ PalE cs ws ∧
  ∀ (H' : Hp) (L : Addr) (ps : List (List Trn)), Bp H' b (n + 600) → Sm [b] H H' → Dp K (off H' [b]) (.ref L) (potsD ps) → PotsOk cs ps → Q (.ref L) H'
theorem ok_pots {f : Addr} {fd : FuncData} {k : Nat} (F : Fun K "_law_pots" "_law_pots" s__law_pots f fd) (T : Txt mg) (c__law_take : Cl P w K mg base (k + 1) "_law_take" spTake) (c__law_pot : Cl P w K mg base (k + 2) "_law_pot" (spPot K)) : FnOk P w K mg base CX0 (k + 3) f fd ["_law_box_here", "_law_palette_here", "_law_most"] (spPots K) := by
  refine F.ok sc__law_pots (fun vs H Q E h => ?_) (fun cdv A outer s H vs Q E hr h => ?_)
  · obtain ⟨b, v, cs, ws, n, rfl, _⟩ := h
    rfl
  · obtain ⟨b, v, cs, ws, n, rfl, B, hn, dv, pal, q⟩ := h
    have nd := sc__law_pots.nd
    /- 0 _law_box_here, 1 _law_palette_here, 2 _law_most, 3 _law_counts, 4 _law_k -/
    refine ⟨_, (pss_cons (ps_set (i := 3) nd rfl (.inr rfl) pe_dnewK)
      (pss_one (ps_ret (pe_lc (own := [("_law_k", 4)]) rfl nd (pi_range1 (by rfl) T.range (pa_cons (pe_cl c__law_take hr (by omega) (by rfl) (pa_cons (pv 0) (pa_cons (pe_op op_add (pv 2) pe_int) pa_nil))) pa_nil)) (blkOk_by (N := n__law_pots) (sc := defScope s__law_pots) (by decide +kernel)) (fun _ _ _ _ _ => (pg_name (i := 4) nd rfl (.inl rfl))) (fun _ _ _ _ _ => pts_nil) (fun _ _ _ _ _ => (pe_cl c__law_pot hr (by omega) (by rfl) (pa_cons (pv 0) (pa_cons (pv 1) (pa_cons (pv 3) pa_nil))))))))), ?_⟩
    refine fun D nD => ?_
    have Db := B.ne nD
    have eoff : off (upd H D (.dK [])) [D, b] = off H [b] := off_fresh nD
    have dv1 : Dp K (off (upd H D (.dK [])) [D, b]) v (palD cs ws) := by rw [eoff]; exact dv
    have B1 := B.put (o := .dK []) nD
    have hD : upd H D (.dK []) D = some (.dK []) := upd_same
    have sc : Sm [b] H (upd H D (.dK [])) := sm_put nD
    generalize upd H D (.dK []) = H1 at dv1 B1 hD sc ⊢
    refine ⟨_, rfl, _, rfl, _, _, rfl, rfl, b, _, _, rfl, (by decide), (by decide), B1, by omega, fun H2 r r0 r1 B2 s2 => ?_⟩
    have hD := sm1_at s2 Db hD
    have sc := sc.trans s2
    have dv2 := dp_same (sm_one (S := [D, b]) (by simp) s2) dv1
    refine ⟨_, rfl, (by omega), (by omega), fun R nR => ?_⟩
    have nR0 : H R = none := sm_free sc B2.bx nR
    have M := Dst.start (R := R) (fs := [(v, palD cs ws)]) B2 hD Db (Same.refl _) nR (fun p hp => by rw [List.mem_singleton.mp hp]; exact dv2)
    refine lc_it walk_range (fun i Hx => ∃ (us : List V) (ps : List (List Trn)) (kvs : List (Key × V)), Dst K H2 b D R [(v, palD cs ws)] (n + 1 + 60 * i) us (ps.map potD) kvs Hx ∧ ps.length = i ∧ (∀ p ∈ ps, p.length ≤ 9 ∧ ∀ t ∈ p, TrOk cs t) ∧ Cnt kvs (9 * i)) ⟨[], [], [], M, rfl, (fun _ h => (List.not_mem_nil h).elim), Cnt.nil⟩ (fun _ _ _ _ => trivial) ?_ ?_
    · clear M
      rintro i x H3 H4 hi ⟨us, ps, kvs, M, lps, ok, cnt⟩ ⟨rfl, rfl⟩
      have hi8 : i < 8 := by omega
      refine ⟨rfl, tYes_at ?_⟩
      rw [if_pos rfl]
      refine ⟨_, rfl, _, rfl, _, rfl, b, D, v, cs, ws, _, _, kvs, rfl, M.st, by omega, Db, M.hD, cnt, by omega, M.kept (q := (v, palD cs ws)) (by simp), pal, fun H5 L ts kvs' B5 s5 nL dL lts tok hD5 cnt5 => ?_⟩
      have LR : L ≠ R := (ne_of_none M.hR nL).symm
      have M := M.called B5 s5 hD5
      have dL2 : Dp K (off H5 [R, D, b]) (.ref L) (potD ts) := lst_offX M.hR LR (noL_trs ts) dL
      have lus : us.length = i := by rw [dpAll_map_len M.dR]; exact lps
      refine ⟨us, M.hR, (by rw [lus, sizeLine_eq]; omega), us ++ [.ref L], ps ++ [ts], kvs', (by rw [List.map_append]; exact (M.app dL2).mono (by omega)), by rw [List.length_append, lps]; rfl, fun p hp => ?_, cnt5.mono (by omega)⟩
      rcases List.mem_append.mp hp with h | h
      · exact ok p h
      · rw [List.mem_singleton.mp h]; exact ⟨lts, tok⟩
    rintro H3 ⟨us, ps, kvs, M, lps, ok, cnt⟩
    have s3 : Sm [b] H H3 := by
      intro x o e
      have hx := off_mem e
      have e2 := sc _ _ e
      have xD : x ≠ D := fun z => by
        rw [off_out hx, z, nD] at e; cases e
      rw [off_out hx] at e2 ⊢
      exact sm_at M.sm (by simp [xD] at hx ⊢; exact hx) e2
    refine q _ R ps (M.st.mono (by omega)) s3 (dp_same (off_mono (by simp)) M.done) ⟨by omega, ok⟩
/-! ### _law_team -/
abbrev Tm : Type := Str × Str × Int × Int
def tmD (t : Tm) : PyData := .tuple [.str t.1, .str t.2.1, .int t.2.2.1, .int t.2.2.2]
structure TmOk (t : Tm) : Prop where
  n : Nm t.1
  c : Nm t.2.1
  a : 0 ≤ t.2.2.1 ∧ t.2.2.1 ≤ 60
  b : 0 ≤ t.2.2.2 ∧ t.2.2.2 ≤ 60
theorem tr_dp {K : PySem.W.Frag} {H : Hp} {v : V} {t : Trn} (h : Dp K H v (trD t)) : ∃ a, v = .ref a ∧ SqT K H a [.int t.1, .str t.2.1, .int t.2.2.1, .int t.2.2.2] := by
  obtain ⟨a, xs, rfl, hs, ha⟩ := dp_tup h
  obtain ⟨x, y, z, u, rfl, h1, h2, h3, h4⟩ := dp_four ha
  rw [dp_int h1, dp_str h2, dp_int h3, dp_int h4] at hs
  exact ⟨a, rfl, hs⟩
theorem tm_dp {K : PySem.W.Frag} {H : Hp} {v : V} {t : Tm} (h : Dp K H v (tmD t)) : ∃ a, v = .ref a ∧ SqT K H a [.str t.1, .str t.2.1, .int t.2.2.1, .int t.2.2.2] := by
  obtain ⟨a, xs, rfl, hs, ha⟩ := dp_tup h
  obtain ⟨x, y, z, u, rfl, h1, h2, h3, h4⟩ := dp_four ha
  rw [dp_str h1, dp_str h2, dp_int h3, dp_int h4] at hs
  exact ⟨a, rfl, hs⟩
theorem bd_tr {cs : List Col} (pal : ∀ c ∈ cs, Nm c.1) {t : Trn} (h : TrOk cs t) : Bd 9 1000 5870 1 40 (trD t) := by
  obtain ⟨c, hc, ec⟩ := h.c
  have hn := pal c hc
  rw [ec] at hn
  obtain ⟨a1, a2⟩ := h.a
  obtain ⟨b1, b2⟩ := h.b
  have bs : Bd 9 1000 92 0 40 (.str t.2.1) := (bd_str (Nat.le_trans hn.1.1 (by decide)) (by decide) hn.ascii).mono (Nat.le_refl _) (Nat.le_refl _) (by decide) (Nat.le_refl _) (Nat.zero_le _)
  have bi : ∀ {i : Int}, i.natAbs ≤ 1000 → Bd 9 1000 1921 0 40 (.int i) := fun h => (bd_int h).mono (Nat.le_refl _) (Nat.le_refl _) (Nat.le_refl _) (Nat.le_refl _) (Nat.zero_le _)
  have b4 : Bds 9 1000 (1921 + 2 + (92 + 2 + (1921 + 2 + (1921 + 2)))) 0 40 [.int t.1, .str t.2.1, .int t.2.2.1, .int t.2.2.2] := (Bds.one (bi (by omega))).app ((Bds.one bs).app ((Bds.one (bi (by omega))).app (Bds.one (bi (by omega)))))
  exact (b4.tuple (by show 4 ≤ 40; decide)).mono (Nat.le_refl _) (Nat.le_refl _) (by decide) (Nat.le_refl _) (Nat.le_refl _)
theorem bds_map {α : Type} {n m C D W : Nat} {f : α → PyData} : ∀ {l : List α}, (∀ x ∈ l, Bd n m C D W (f x)) → Bds n m ((C + 2) * l.length) D W (l.map f)
  | [], _ => Bds.nil
  | x :: l, h => by
    have h1 := Bds.one (h x List.mem_cons_self)
    have h2 := bds_map (l := l) fun y hy => h y (List.mem_cons_of_mem _ hy)
    exact (h1.app h2).mono (Nat.le_refl _) (Nat.le_refl _) (by rw [List.length_cons, Nat.mul_succ]; omega) (Nat.le_refl _) (Nat.le_refl _)
theorem bd_pot {cs : List Col} (pal : ∀ c ∈ cs, Nm c.1) {p : List Trn} (h : p.length ≤ 9 ∧ ∀ t ∈ p, TrOk cs t) : Bd 9 1000 52851 2 40 (potD p) := by
  have b := (bds_map (f := trD) fun t ht => bd_tr pal (h.2 t ht)).list (show (p.map trD).length ≤ 40 by rw [List.length_map]; omega)
  exact b.mono (Nat.le_refl _) (Nat.le_refl _) (by have := Nat.mul_le_mul_left 5872 h.1; omega) (Nat.le_refl _) (Nat.le_refl _)
theorem bd_pots {cs : List Col} (pal : ∀ c ∈ cs, Nm c.1) {ps : List (List Trn)} (h : PotsOk cs ps) : Bd 9 1000 422827 3 40 (potsD ps) := by
  have b := (bds_map (f := potD) fun p hp => bd_pot pal (h.e p hp)).list (show (ps.map potD).length ≤ 40 by rw [List.length_map]; have := h.l; omega)
  exact b.mono (Nat.le_refl _) (Nat.le_refl _) (by have := Nat.mul_le_mul_left 52853 h.l; omega) (Nat.le_refl _) (Nat.le_refl _)
theorem bd_shaped {n m C D W : Nat} {d : PyData} (b : Bd n m C D W d) (h : D ≤ 60) : SeqAt.shaped d = true := gd_shaped b.t.g (Nat.le_trans b.t.d (by omega))
theorem eqv_nil {α : Type} (f : α → PyData) : ∀ l : List α, PyData.eqv (.list (l.map f)) (.list []) = l.isEmpty
  | [] => rfl
  | _ :: _ => rfl
abbrev s__law_team : Stmt := topS 25
def n__law_team : List Str := ["_law_box_here", "_law_palette_here", "_law_pots_here", "_law_name", "_law_pot_here", "_law_first", "_law_colour", "_law_at", "_law_begin", "_law_end", "_law_last"]
theorem sc__law_team : FnScope n__law_team ["_law_box_here", "_law_palette_here", "_law_pots_here", "_law_name"] (defScope s__law_team) := ⟨rfl, rfl, rfl, by decide +kernel, rfl, by decide +kernel, by decide +kernel⟩
def spTeam (K : PySem.W.Frag) : Sp := fun vs H Q _ => ∃ (b P : Addr) (v : V) (cs : List Col) (ws : List Wsh) (ps : List (List Trn)) (z : Str) (n : Nat), vs = [.ref b, v, .ref P, .str z] ∧ Bp H b n ∧ n < 2 ^ 37 ∧ Dp K (off H [b]) v (palD cs ws) ∧ PalE cs ws ∧ Dp K (off H [b]) (.ref P) (potsD ps) ∧ PotsOk cs ps ∧ Nm z ∧
  ∀ (H' : Hp) (t : Addr) (tm : Tm), Bp H' b (n + 10) → Sm [b] H H' → Dp K (off H' [b]) (.ref t) (tmD tm) → TmOk tm → (∃ c ∈ cs, c.1 = tm.2.1) → tm.1 = z → Q (.ref t) H'
set_option maxHeartbeats 1000000 in
theorem ok_team {f : Addr} {fd : FuncData} {k : Nat} (F : Fun K "_law_team" "_law_team" s__law_team f fd) (T : Txt mg) (c__law_take : Cl P w K mg base (k + 1) "_law_take" spTake) : FnOk P w K mg base CX0 (k + 2) f fd ["_law_box_here", "_law_palette_here", "_law_pots_here", "_law_name"] (spTeam K) := by
  refine F.ok sc__law_team (fun vs H Q E h => ?_) (fun cdv A outer s H vs Q E hr h => ?_)
  · obtain ⟨b, P, v, cs, ws, ps, z, n, rfl, _⟩ := h
    rfl
  · obtain ⟨b, P, v, cs, ws, ps, z, n, rfl, B, hn, dv, pal, dps, pok, hz, q⟩ := h
    have nd := sc__law_team.nd
    have hu64 := hr.units
    /- 0 _law_box_here, 1 _law_palette_here, 2 _law_pots_here, 3 _law_name, 4 _law_pot_here, 5 _law_first, 6 _law_colour, 7 _law_at, 8 _law_begin, 9 _law_end, 10 _law_last -/
    refine ⟨_, (pss_cons (ps_set (i := 4) nd rfl (.inl rfl) (pe_ifExp (pt_cmpR (ko_ne (K := K) hu64) (pv 2) (pe_lst pa_nil) (nomark _)) (pe_ix (kx_list (K := K)) (pv 2) (pe_cl c__law_take hr (by omega) (by rfl) (pa_cons (pv 0) (pa_cons (pe_callB (kc_len (K := K)) (by rfl) T.len PySem.boot_len (pa_cons (pv 2) pa_nil)) pa_nil))) (fun _ _ => rfl)) (pe_lst pa_nil)))
      (pss_cons (ps_if ((pw_or (pt_cmpR (ko_eq (K := K) hu64) (pv 4) (pe_lst pa_nil) (nomark _)) (pw_or1 (pt_cmpR op_eq (pe_cl c__law_take hr (by omega) (by rfl) (pa_cons (pv 0) (pa_cons pe_int pa_nil))) pe_int (nomark _))))).pt
          (pss_cons (ps_set (i := 5) nd rfl (.inl rfl) (pe_cl c__law_take hr (by omega) (by rfl) (pa_cons (pv 0) (pa_cons pe_int pa_nil))))
          (pss_cons (ps_set (i := 6) nd rfl (.inl rfl) (pe_ix (kx_tup (K := K)) (pe_ix (kx_tup (K := K)) (pe_ix (kx_tup (K := K)) (pv 1) pe_int (fun _ _ => rfl)) (pe_cl c__law_take hr (by omega) (by rfl) (pa_cons (pv 0) (pa_cons (pe_callB (kc_len (K := K)) (by rfl) T.len PySem.boot_len (pa_cons (pe_ix (kx_tup (K := K)) (pv 1) pe_int (fun _ _ => rfl)) pa_nil)) pa_nil))) (fun _ _ => rfl)) pe_int (fun _ _ => rfl)))
          (pss_one (ps_ret (pe_tup (pa_cons (pv 3) (pa_cons (pv 6) (pa_cons (pv 5) (pa_cons (pe_op op_add (pe_op op_add (pv 5) pe_int) (pe_cl c__law_take hr (by omega) (by rfl) (pa_cons (pv 0) (pa_cons (pe_callB (call_min2 rfl) (by rfl) T.min (by decide +kernel) (pa_cons (pe_op op_sub pe_int (pv 5)) (pa_cons (pe_ix (kx_list (K := K)) (pe_lst (pa_cons pe_int (pa_cons pe_int pa_nil))) (pe_cl c__law_take hr (by omega) (by rfl) (pa_cons (pv 0) (pa_cons pe_int pa_nil))) (fun _ _ => rfl)) pa_nil))) pa_nil)))) pa_nil)))))))))
          pss_nil)
      (pss_cons (ps_asg (pe_ix (kx_list (K := K)) (pv 4) (pe_cl c__law_take hr (by omega) (by rfl) (pa_cons (pv 0) (pa_cons (pe_callB (kc_len (K := K)) (by rfl) T.len PySem.boot_len (pa_cons (pv 4) pa_nil)) pa_nil))) (fun _ _ => rfl)) (kg_tup (K := K) (n := 4) (pgs_cons (pg_name (i := 7) nd rfl (.inl rfl)) (pgs_cons (pg_name (i := 6) nd rfl (.inl rfl)) (pgs_cons (pg_name (i := 8) nd rfl (.inl rfl)) (pgs_cons (pg_name (i := 9) nd rfl (.inl rfl)) pgs_nil))))))
      (pss_cons (ps_set (i := 5) nd rfl (.inl rfl) (pe_op op_add (pv 8) (pe_cl c__law_take hr (by omega) (by rfl) (pa_cons (pv 0) (pa_cons (pe_op op_sub (pv 9) (pv 8)) pa_nil)))))
      (pss_cons (ps_set (i := 10) nd rfl (.inl rfl) (pe_op op_add (pe_op op_add (pv 5) pe_int) (pe_cl c__law_take hr (by omega) (by rfl) (pa_cons (pv 0) (pa_cons (pe_op op_sub (pv 9) (pv 5)) pa_nil)))))
      (pss_cons (ps_if (pt_cmpR op_eq (pe_cl c__law_take hr (by omega) (by rfl) (pa_cons (pv 0) (pa_cons pe_int pa_nil))) pe_int (nomark _))
          (pss_one (ps_ret (pe_tup (pa_cons (pv 3) (pa_cons (pv 6) (pa_cons (pe_callB (call_max2 rfl) (by rfl) T.max (by decide +kernel) (pa_cons pe_int (pa_cons (pe_op op_sub (pv 5) pe_int) pa_nil))) (pa_cons (pv 10) pa_nil)))))))
          pss_nil)
      (pss_one (ps_ret (pe_tup (pa_cons (pv 3) (pa_cons (pv 6) (pa_cons (pv 5) (pa_cons (pe_callB (call_min2 rfl) (by rfl) T.min (by decide +kernel) (pa_cons pe_int (pa_cons (pe_op op_add (pv 10) (pe_callTy call_int1 (by rfl) T.int (by decide +kernel) (pa_cons (pe_cmpR op_eq (pe_cl c__law_take hr (by omega) (by rfl) (pa_cons (pv 0) (pa_cons pe_int pa_nil))) pe_int (nomark _)) pa_nil))) pa_nil))) pa_nil))))))))))))), ?_⟩
    obtain ⟨S, eS⟩ : ∃ S, S = [b] := ⟨_, rfl⟩
    have hb : b ∈ S := by rw [eS]; simp
    have sc : Sm [b] H H := Same.refl _
    have lv : Live S H := by rw [eS]; exact Live.pw B
    rw [← eS] at dv dps
    refine ⟨_, rfl, Nat.zero_le _, fun e0 ne0 => ?_⟩
    have fe0 := off_new (o := .lst []) lv ne0
    have lv := lv.put (o := .lst []) ne0
    have B := B.put (o := .lst []) ne0
    have sc := sc.trans (sm_put (S := [b]) (o := .lst []) ne0)
    have dv := dp_same ((sm_put (S := S) (o := .lst []) ne0)) dv
    have dps := dp_same ((sm_put (S := S) (o := .lst []) ne0)) dps
    generalize upd H e0 (.lst []) = H1 at fe0 lv B sc dv dps ⊢
    have shN : SeqAt.shaped (.list []) = true := by decide
    refine ⟨_, _, dp_off dps, .lst (SqL.of (at_off fe0)) .nil, bd_shaped (bd_pots pal.wd pok) (by decide), shN, _, rfl, ?_⟩
    rw [show PyData.eqv (potsD ps) (.list []) = ps.isEmpty from eqv_nil potD ps]
    clear fe0
    cases hps : ps.isEmpty with
    | true =>
      refine iteF ⟨Nat.zero_le _, fun a4 na4 => ?_⟩
      have fa4 := off_new (o := .lst []) lv na4
      have lv := lv.put (o := .lst []) na4
      have B := B.put (o := .lst []) na4
      have sc := sc.trans (sm_put (S := [b]) (o := .lst []) na4)
      have dv := dp_same ((sm_put (S := S) (o := .lst []) na4)) dv
      generalize upd H1 a4 (.lst []) = H4 at fa4 lv B sc dv ⊢
      have dpt : Dp K (off H4 S) (.ref a4) (potD []) := .lst (SqL.of fa4) .nil
      have tsok : ([] : List Trn).length ≤ 9 ∧ ∀ t ∈ ([] : List Trn), TrOk cs t := ⟨by decide, fun _ h => (List.not_mem_nil h).elim⟩
      generalize ([] : List Trn) = ts at dpt tsok
      clear fa4
      refine ⟨_, rfl, Nat.zero_le _, fun e2 ne2 => ?_⟩
      have fe2 := off_new (o := .lst []) lv ne2
      have lv := lv.put (o := .lst []) ne2
      have B := B.put (o := .lst []) ne2
      have sc := sc.trans (sm_put (S := [b]) (o := .lst []) ne2)
      have dv := dp_same ((sm_put (S := S) (o := .lst []) ne2)) dv
      have dpt := dp_same ((sm_put (S := S) (o := .lst []) ne2)) dpt
      generalize upd H4 e2 (.lst []) = H5 at fe2 lv B sc dv dpt ⊢
      refine ⟨_, _, dp_off dpt, .lst (SqL.of (at_off fe2)) .nil, bd_shaped (bd_pot pal.wd tsok) (by decide), shN, _, rfl, ?_⟩
      rw [show PyData.eqv (potD ts) (.list []) = ts.isEmpty from eqv_nil trD ts]
      clear fe2
      cases hts : ts.isEmpty with
      | true =>
        refine iteT ?_
        refine ⟨_, rfl, b, 60, _, rfl, (by decide), (by decide), B, by omega, fun H5 f f0 f1 B5 s5 => ?_⟩
        have lv := lv.box B5.bx s5
        have sc := sc.trans s5
        have B := B5
        have dv := dp_same ((sm_one hb s5)) dv
        obtain ⟨p, ca, wa, xs, ys, ev, hp, hc, hx, hw, hy⟩ := pal_dp dv
        have lx : xs.length = cs.length := dpAll_map_len hx
        have lne := pal.ne
        have lle := pal.le
        rw [ev]
        refine ⟨_, rfl, p, _, 0, .ref ca, rfl, rfl, sqt_off hp, rfl, _, rfl, _, rfl, p, _, 0, .ref ca, rfl, rfl, sqt_off hp, rfl, _, _, rfl, .inr ⟨_, sqt_off hc, rfl⟩, b, _, _, rfl, (by omega), (by omega), B, by omega, fun H6 r r0 r1 B6 s6 => ?_⟩
        have s6' : Sm S H5 H6 := sm_one hb s6
        have lv := lv.box B6.bx s6
        have sc := sc.trans s6
        have B := B6
        have dv := dp_same ((sm_one hb s6)) dv
        obtain ⟨j, rfl⟩ : ∃ j : Nat, r = (j : Int) := ⟨r.toNat, by omega⟩
        have hj : j < xs.length := by omega
        obtain ⟨c, gc, dpc⟩ := dpAll_map_at hx (List.getElem?_eq_getElem hj)
        obtain ⟨rr, er, hrr⟩ := col_dp (dp_same s6' dpc)
        have hnm := pal.wd c (List.mem_of_getElem? gc)
        refine ⟨ca, _, j, _, rfl, rfl, sqt_off (same_tup s6' hc), atI_nat (List.getElem?_eq_getElem hj), ?_⟩
        rw [er]
        refine ⟨rr, _, 0, _, rfl, rfl, sqt_off hrr, rfl, ?_⟩
        refine ⟨_, rfl, _, rfl, _, rfl, _, rfl, _, _, rfl, rfl, _, rfl, _, rfl, _, _, rfl, rfl, (by show 2 ≤ sizeLine; decide), fun a1 na1 => ?_⟩
        have fa1 := off_new (o := .lst [.int 2, .int 60]) lv na1
        have lv := lv.put (o := .lst [.int 2, .int 60]) na1
        have B := B.put (o := .lst [.int 2, .int 60]) na1
        have sc := sc.trans (sm_put (S := [b]) (o := .lst [.int 2, .int 60]) na1)
        generalize upd H6 a1 (.lst [.int 2, .int 60]) = H7 at fa1 lv B sc  ⊢
        refine ⟨_, rfl, b, 2, _, rfl, (by decide), (by decide), B, by omega, fun H8 r2 r20 r21 B8 s8 => ?_⟩
        have lv := lv.box B8.bx s8
        have sc := sc.trans s8
        have B := B8
        have fa1 := (sm_one hb s8) _ _ fa1
        obtain ⟨e1, ee1, e10⟩ : ∃ e1 : Int, atI [V.int 2, .int 60] r2 = some (.int e1) ∧ 1 ≤ e1 := by
          have h : r2 = 0 ∨ r2 = 1 := by omega
          rcases h with rfl | rfl
          · exact ⟨_, rfl, by decide⟩
          · exact ⟨_, rfl, by decide⟩
        refine ⟨a1, _, r2, _, rfl, rfl, SqL.of (at_off fa1), ee1, _, _, rfl, b, _, _, rfl, (by split <;> omega), (by split <;> omega), B, by omega, fun Hz g g0 g1 B9 s9 => ⟨_, _, rfl, rfl, (by show 4 ≤ sizeLine; decide), fun t nt => ?_⟩⟩
        have g2 : g < 60 - f := by split at g1 <;> omega
        have lv := lv.box B9.bx s9
        have sc := sc.trans s9
        have B := B9
        obtain ⟨tm, etm⟩ : ∃ tm : Tm, tm = (z, c.1, f, f + 1 + g) := ⟨_, rfl⟩
        have tok : TmOk tm := by rw [etm]; exact ⟨hz, hnm, ⟨f0, by show f ≤ 60; omega⟩, ⟨by show 0 ≤ f + 1 + g; omega, by show f + 1 + g ≤ 60; omega⟩⟩
        show Q _ (upd Hz t (HO.tup [.str z, .str c.1, .int f, .int (f + 1 + g)]))
        have dtm := off_new (o := HO.tup [.str z, .str c.1, .int f, .int (f + 1 + g)]) lv nt
        exact q _ t (z, c.1, f, f + 1 + g) ((B.put nt).mono (by omega)) (sc.trans (sm_put nt)) (by rw [← eS]; exact .tup (.inl (.inl dtm)) (.cons (.str _) (.cons (.str _) (.cons (.int _) (.cons (.int _) .nil))))) (by rw [← etm]; exact tok) ⟨c, List.mem_of_getElem? gc, rfl⟩ rfl
      | false =>
        refine iteF ⟨_, rfl, b, 6, _, rfl, (by decide), (by decide), B, by omega, fun H6 r r0 r1 B6 s6 => ⟨rfl, _, rfl, ite2 (fun h6 => ?_) (fun h6 => ?_)⟩⟩
        · skip
          have lv := lv.box B6.bx s6
          have sc := sc.trans s6
          have B := B6
          have dv := dp_same ((sm_one hb s6)) dv
          refine ⟨_, rfl, b, 60, _, rfl, (by decide), (by decide), B, by omega, fun H5 f f0 f1 B5 s5 => ?_⟩
          have lv := lv.box B5.bx s5
          have sc := sc.trans s5
          have B := B5
          have dv := dp_same ((sm_one hb s5)) dv
          obtain ⟨p, ca, wa, xs, ys, ev, hp, hc, hx, hw, hy⟩ := pal_dp dv
          have lx : xs.length = cs.length := dpAll_map_len hx
          have lne := pal.ne
          have lle := pal.le
          rw [ev]
          refine ⟨_, rfl, p, _, 0, .ref ca, rfl, rfl, sqt_off hp, rfl, _, rfl, _, rfl, p, _, 0, .ref ca, rfl, rfl, sqt_off hp, rfl, _, _, rfl, .inr ⟨_, sqt_off hc, rfl⟩, b, _, _, rfl, (by omega), (by omega), B, by omega, fun H6 r r0 r1 B6 s6 => ?_⟩
          have s6' : Sm S H5 H6 := sm_one hb s6
          have lv := lv.box B6.bx s6
          have sc := sc.trans s6
          have B := B6
          have dv := dp_same ((sm_one hb s6)) dv
          obtain ⟨j, rfl⟩ : ∃ j : Nat, r = (j : Int) := ⟨r.toNat, by omega⟩
          have hj : j < xs.length := by omega
          obtain ⟨c, gc, dpc⟩ := dpAll_map_at hx (List.getElem?_eq_getElem hj)
          obtain ⟨rr, er, hrr⟩ := col_dp (dp_same s6' dpc)
          have hnm := pal.wd c (List.mem_of_getElem? gc)
          refine ⟨ca, _, j, _, rfl, rfl, sqt_off (same_tup s6' hc), atI_nat (List.getElem?_eq_getElem hj), ?_⟩
          rw [er]
          refine ⟨rr, _, 0, _, rfl, rfl, sqt_off hrr, rfl, ?_⟩
          refine ⟨_, rfl, _, rfl, _, rfl, _, rfl, _, _, rfl, rfl, _, rfl, _, rfl, _, _, rfl, rfl, (by show 2 ≤ sizeLine; decide), fun a1 na1 => ?_⟩
          have fa1 := off_new (o := .lst [.int 2, .int 60]) lv na1
          have lv := lv.put (o := .lst [.int 2, .int 60]) na1
          have B := B.put (o := .lst [.int 2, .int 60]) na1
          have sc := sc.trans (sm_put (S := [b]) (o := .lst [.int 2, .int 60]) na1)
          generalize upd H6 a1 (.lst [.int 2, .int 60]) = H7 at fa1 lv B sc  ⊢
          refine ⟨_, rfl, b, 2, _, rfl, (by decide), (by decide), B, by omega, fun H8 r2 r20 r21 B8 s8 => ?_⟩
          have lv := lv.box B8.bx s8
          have sc := sc.trans s8
          have B := B8
          have fa1 := (sm_one hb s8) _ _ fa1
          obtain ⟨e1, ee1, e10⟩ : ∃ e1 : Int, atI [V.int 2, .int 60] r2 = some (.int e1) ∧ 1 ≤ e1 := by
            have h : r2 = 0 ∨ r2 = 1 := by omega
            rcases h with rfl | rfl
            · exact ⟨_, rfl, by decide⟩
            · exact ⟨_, rfl, by decide⟩
          refine ⟨a1, _, r2, _, rfl, rfl, SqL.of (at_off fa1), ee1, _, _, rfl, b, _, _, rfl, (by split <;> omega), (by split <;> omega), B, by omega, fun Hz g g0 g1 B9 s9 => ⟨_, _, rfl, rfl, (by show 4 ≤ sizeLine; decide), fun t nt => ?_⟩⟩
          have g2 : g < 60 - f := by split at g1 <;> omega
          have lv := lv.box B9.bx s9
          have sc := sc.trans s9
          have B := B9
          obtain ⟨tm, etm⟩ : ∃ tm : Tm, tm = (z, c.1, f, f + 1 + g) := ⟨_, rfl⟩
          have tok : TmOk tm := by rw [etm]; exact ⟨hz, hnm, ⟨f0, by show f ≤ 60; omega⟩, ⟨by show 0 ≤ f + 1 + g; omega, by show f + 1 + g ≤ 60; omega⟩⟩
          show Q _ (upd Hz t (HO.tup [.str z, .str c.1, .int f, .int (f + 1 + g)]))
          have dtm := off_new (o := HO.tup [.str z, .str c.1, .int f, .int (f + 1 + g)]) lv nt
          exact q _ t (z, c.1, f, f + 1 + g) ((B.put nt).mono (by omega)) (sc.trans (sm_put nt)) (by rw [← eS]; exact .tup (.inl (.inl dtm)) (.cons (.str _) (.cons (.str _) (.cons (.int _) (.cons (.int _) .nil))))) (by rw [← etm]; exact tok) ⟨c, List.mem_of_getElem? gc, rfl⟩ rfl
        have lv := lv.box B6.bx s6
        have sc := sc.trans s6
        have B := B6
        have dv := dp_same ((sm_one hb s6)) dv
        have dpt := dp_same ((sm_one hb s6)) dpt
        obtain ⟨ap, us, eap, hs, da⟩ := dp_lst dpt
        have lus : us.length = ts.length := dpAll_map_len da
        have lts : 0 < ts.length := by
          cases ts with
          | nil => cases hts
          | cons _ _ => exact Nat.succ_pos _
        have lt9 := tsok.1
        rw [eap]
        refine ⟨_, rfl, _, rfl, _, rfl, _, _, rfl, .inl ⟨_, sq_off hs, rfl⟩, b, _, _, rfl, (by omega), (by omega), B, by omega, fun H7 i i0 i1 B7 s7 => ?_⟩
        have s7' : Sm S H6 H7 := sm_one hb s7
        have lv := lv.box B7.bx s7
        have sc := sc.trans s7
        have B := B7
        obtain ⟨j, rfl⟩ : ∃ j : Nat, i = (j : Int) := ⟨i.toNat, by omega⟩
        have hj : j < us.length := by omega
        obtain ⟨tr, gt, dtr⟩ := dpAll_map_at da (List.getElem?_eq_getElem hj)
        obtain ⟨rr, er, hrr⟩ := tr_dp (dp_same s7' dtr)
        have trk := tsok.2 tr (List.mem_of_getElem? gt)
        obtain ⟨t1, t2⟩ := trk.a
        obtain ⟨t3, t4⟩ := trk.b
        obtain ⟨c, hcm, ecn⟩ := trk.c
        have hnm : Nm tr.2.1 := by rw [← ecn]; exact pal.wd c hcm
        refine ⟨ap, _, j, _, rfl, rfl, s7'.seq hs |> sq_off, atI_nat (List.getElem?_eq_getElem hj), ?_⟩
        rw [er]
        refine ⟨rr, _, rfl, sqt_off hrr, rfl, _, _, rfl, _, _, rfl, _, _, rfl, _, _, rfl, rfl, ?_⟩
        have fin : ∀ (Hz : Hp) (x y : Int) (t : Addr), Bp Hz b (n + 10) → Sm [b] H Hz → Live S Hz → Hz t = none → 0 ≤ x → x ≤ 60 → 0 ≤ y → y ≤ 60 → Q (.ref t) (upd Hz t (.tup [.str z, .str tr.2.1, .int x, .int y])) := fun Hz x y t Bz sz lz nt x0 x1 y0 y1 => by
          have dtm := off_new (o := HO.tup [.str z, .str tr.2.1, .int x, .int y]) lz nt
          exact q _ t (z, tr.2.1, x, y) (Bz.put nt) (sz.trans (sm_put nt)) (by rw [← eS]; exact .tup (.inl (.inl dtm)) (.cons (.str _) (.cons (.str _) (.cons (.int _) (.cons (.int _) .nil))))) ⟨hz, hnm, ⟨x0, x1⟩, ⟨y0, y1⟩⟩ ⟨c, hcm, ecn⟩ rfl
        refine ⟨_, rfl, _, rfl, _, rfl, _, rfl, _, _, rfl, rfl, b, _, _, rfl, (by omega), (by omega), B, by omega, fun H8 f f0 f1 B8 s8 => ⟨_, _, rfl, rfl, ?_⟩⟩
        have lv := lv.box B8.bx s8
        have sc := sc.trans s8
        have B := B8
        refine ⟨_, rfl, _, _, rfl, rfl, _, rfl, _, rfl, _, rfl, _, _, rfl, rfl, b, _, _, rfl, (by omega), (by omega), B, by omega, fun H9 g g0 g1 B9 s9 => ⟨_, _, rfl, rfl, ?_⟩⟩
        have lv := lv.box B9.bx s9
        have sc := sc.trans s9
        have B := B9
        refine ⟨_, rfl, b, 8, _, rfl, (by decide), (by decide), B, by omega, fun H10 r8 r80 r81 B10 s10 => ⟨rfl, _, rfl, ite2 (fun h8 => ?_) (fun h8 => ?_)⟩⟩
        · skip
          have lv := lv.box B10.bx s10
          have sc := sc.trans s10
          have B := B10
          refine ⟨_, rfl, _, rfl, _, rfl, _, _, rfl, rfl, _, _, rfl, _, rfl, (by show 4 ≤ sizeLine; decide), fun t nt => ?_⟩
          exact fin _ _ _ t (B.mono (by omega)) sc lv nt (by split <;> omega) (by split <;> omega) (by omega) (by omega)
        · skip
          have lv := lv.box B10.bx s10
          have sc := sc.trans s10
          have B := B10
          refine ⟨_, rfl, _, rfl, _, rfl, _, rfl, _, rfl, b, 8, _, rfl, (by decide), (by decide), B, by omega, fun H11 r9 r90 r91 B11 s11 => ⟨rfl, .inr ⟨_, rfl, _, _, rfl, rfl, _, _, rfl, (by show 4 ≤ sizeLine; decide), fun t nt => ?_⟩⟩⟩
          have lv := lv.box B11.bx s11
          have sc := sc.trans s11
          have B := B11
          generalize hbb : (if decide (V.int r9 = V.int 0) = true then (1 : Int) else 0) = bb
          have b01 : 0 ≤ bb ∧ bb ≤ 1 := by rw [← hbb]; split <;> decide
          exact fin _ _ _ t (B.mono (by omega)) sc lv nt (by omega) (by omega) (by split <;> omega) (by split <;> omega)
    | false =>
      obtain ⟨ap0, us0, eap0, hs0, da0⟩ := dp_lst dps
      have hs0 : SqL K (off H1 S) P us0 := by rw [V.ref.inj eap0]; exact hs0
      have lus0 : us0.length = ps.length := dpAll_map_len da0
      have lps0 : 0 < ps.length := by
        cases ps with
        | nil => cases hps
        | cons _ _ => exact Nat.succ_pos _
      have lps8 := pok.l
      refine iteT ⟨_, rfl, _, rfl, _, rfl, _, _, rfl, .inl ⟨_, sq_off hs0, rfl⟩, b, _, _, rfl, (by omega), (by omega), B, by omega, fun H4 i i0 i1 B4 s4 => ?_⟩
      have s4' : Sm S H1 H4 := sm_one hb s4
      have lv := lv.box B4.bx s4
      have sc := sc.trans s4
      have B := B4
      have dv := dp_same ((sm_one hb s4)) dv
      obtain ⟨j, rfl⟩ : ∃ j : Nat, i = (j : Int) := ⟨i.toNat, by omega⟩
      have hj : j < us0.length := by omega
      obtain ⟨ts, gts, dts⟩ := dpAll_map_at da0 (List.getElem?_eq_getElem hj)
      have tsok := pok.e ts (List.mem_of_getElem? gts)
      have dpt0 := dp_same s4' dts
      obtain ⟨a4, us4, ea4, hs4, da4⟩ := dp_lst dpt0
      rw [ea4] at dpt0
      have dpt := dpt0
      refine ⟨P, _, j, _, rfl, rfl, sq_off (s4'.seq hs0), atI_nat (by rw [List.getElem?_eq_getElem hj, ea4]), ?_⟩
      clear dts da0 hs0 eap0 hs4 da4 dpt0
      refine ⟨_, rfl, Nat.zero_le _, fun e2 ne2 => ?_⟩
      have fe2 := off_new (o := .lst []) lv ne2
      have lv := lv.put (o := .lst []) ne2
      have B := B.put (o := .lst []) ne2
      have sc := sc.trans (sm_put (S := [b]) (o := .lst []) ne2)
      have dv := dp_same ((sm_put (S := S) (o := .lst []) ne2)) dv
      have dpt := dp_same ((sm_put (S := S) (o := .lst []) ne2)) dpt
      generalize upd H4 e2 (.lst []) = H5 at fe2 lv B sc dv dpt ⊢
      refine ⟨_, _, dp_off dpt, .lst (SqL.of (at_off fe2)) .nil, bd_shaped (bd_pot pal.wd tsok) (by decide), shN, _, rfl, ?_⟩
      rw [show PyData.eqv (potD ts) (.list []) = ts.isEmpty from eqv_nil trD ts]
      clear fe2
      cases hts : ts.isEmpty with
      | true =>
        refine iteT ?_
        refine ⟨_, rfl, b, 60, _, rfl, (by decide), (by decide), B, by omega, fun H5 f f0 f1 B5 s5 => ?_⟩
        have lv := lv.box B5.bx s5
        have sc := sc.trans s5
        have B := B5
        have dv := dp_same ((sm_one hb s5)) dv
        obtain ⟨p, ca, wa, xs, ys, ev, hp, hc, hx, hw, hy⟩ := pal_dp dv
        have lx : xs.length = cs.length := dpAll_map_len hx
        have lne := pal.ne
        have lle := pal.le
        rw [ev]
        refine ⟨_, rfl, p, _, 0, .ref ca, rfl, rfl, sqt_off hp, rfl, _, rfl, _, rfl, p, _, 0, .ref ca, rfl, rfl, sqt_off hp, rfl, _, _, rfl, .inr ⟨_, sqt_off hc, rfl⟩, b, _, _, rfl, (by omega), (by omega), B, by omega, fun H6 r r0 r1 B6 s6 => ?_⟩
        have s6' : Sm S H5 H6 := sm_one hb s6
        have lv := lv.box B6.bx s6
        have sc := sc.trans s6
        have B := B6
        have dv := dp_same ((sm_one hb s6)) dv
        obtain ⟨j, rfl⟩ : ∃ j : Nat, r = (j : Int) := ⟨r.toNat, by omega⟩
        have hj : j < xs.length := by omega
        obtain ⟨c, gc, dpc⟩ := dpAll_map_at hx (List.getElem?_eq_getElem hj)
        obtain ⟨rr, er, hrr⟩ := col_dp (dp_same s6' dpc)
        have hnm := pal.wd c (List.mem_of_getElem? gc)
        refine ⟨ca, _, j, _, rfl, rfl, sqt_off (same_tup s6' hc), atI_nat (List.getElem?_eq_getElem hj), ?_⟩
        rw [er]
        refine ⟨rr, _, 0, _, rfl, rfl, sqt_off hrr, rfl, ?_⟩
        refine ⟨_, rfl, _, rfl, _, rfl, _, rfl, _, _, rfl, rfl, _, rfl, _, rfl, _, _, rfl, rfl, (by show 2 ≤ sizeLine; decide), fun a1 na1 => ?_⟩
        have fa1 := off_new (o := .lst [.int 2, .int 60]) lv na1
        have lv := lv.put (o := .lst [.int 2, .int 60]) na1
        have B := B.put (o := .lst [.int 2, .int 60]) na1
        have sc := sc.trans (sm_put (S := [b]) (o := .lst [.int 2, .int 60]) na1)
        generalize upd H6 a1 (.lst [.int 2, .int 60]) = H7 at fa1 lv B sc  ⊢
        refine ⟨_, rfl, b, 2, _, rfl, (by decide), (by decide), B, by omega, fun H8 r2 r20 r21 B8 s8 => ?_⟩
        have lv := lv.box B8.bx s8
        have sc := sc.trans s8
        have B := B8
        have fa1 := (sm_one hb s8) _ _ fa1
        obtain ⟨e1, ee1, e10⟩ : ∃ e1 : Int, atI [V.int 2, .int 60] r2 = some (.int e1) ∧ 1 ≤ e1 := by
          have h : r2 = 0 ∨ r2 = 1 := by omega
          rcases h with rfl | rfl
          · exact ⟨_, rfl, by decide⟩
          · exact ⟨_, rfl, by decide⟩
        refine ⟨a1, _, r2, _, rfl, rfl, SqL.of (at_off fa1), ee1, _, _, rfl, b, _, _, rfl, (by split <;> omega), (by split <;> omega), B, by omega, fun Hz g g0 g1 B9 s9 => ⟨_, _, rfl, rfl, (by show 4 ≤ sizeLine; decide), fun t nt => ?_⟩⟩
        have g2 : g < 60 - f := by split at g1 <;> omega
        have lv := lv.box B9.bx s9
        have sc := sc.trans s9
        have B := B9
        obtain ⟨tm, etm⟩ : ∃ tm : Tm, tm = (z, c.1, f, f + 1 + g) := ⟨_, rfl⟩
        have tok : TmOk tm := by rw [etm]; exact ⟨hz, hnm, ⟨f0, by show f ≤ 60; omega⟩, ⟨by show 0 ≤ f + 1 + g; omega, by show f + 1 + g ≤ 60; omega⟩⟩
        show Q _ (upd Hz t (HO.tup [.str z, .str c.1, .int f, .int (f + 1 + g)]))
        have dtm := off_new (o := HO.tup [.str z, .str c.1, .int f, .int (f + 1 + g)]) lv nt
        exact q _ t (z, c.1, f, f + 1 + g) ((B.put nt).mono (by omega)) (sc.trans (sm_put nt)) (by rw [← eS]; exact .tup (.inl (.inl dtm)) (.cons (.str _) (.cons (.str _) (.cons (.int _) (.cons (.int _) .nil))))) (by rw [← etm]; exact tok) ⟨c, List.mem_of_getElem? gc, rfl⟩ rfl
      | false =>
        refine iteF ⟨_, rfl, b, 6, _, rfl, (by decide), (by decide), B, by omega, fun H6 r r0 r1 B6 s6 => ⟨rfl, _, rfl, ite2 (fun h6 => ?_) (fun h6 => ?_)⟩⟩
        · skip
          have lv := lv.box B6.bx s6
          have sc := sc.trans s6
          have B := B6
          have dv := dp_same ((sm_one hb s6)) dv
          refine ⟨_, rfl, b, 60, _, rfl, (by decide), (by decide), B, by omega, fun H5 f f0 f1 B5 s5 => ?_⟩
          have lv := lv.box B5.bx s5
          have sc := sc.trans s5
          have B := B5
          have dv := dp_same ((sm_one hb s5)) dv
          obtain ⟨p, ca, wa, xs, ys, ev, hp, hc, hx, hw, hy⟩ := pal_dp dv
          have lx : xs.length = cs.length := dpAll_map_len hx
          have lne := pal.ne
          have lle := pal.le
          rw [ev]
          refine ⟨_, rfl, p, _, 0, .ref ca, rfl, rfl, sqt_off hp, rfl, _, rfl, _, rfl, p, _, 0, .ref ca, rfl, rfl, sqt_off hp, rfl, _, _, rfl, .inr ⟨_, sqt_off hc, rfl⟩, b, _, _, rfl, (by omega), (by omega), B, by omega, fun H6 r r0 r1 B6 s6 => ?_⟩
          have s6' : Sm S H5 H6 := sm_one hb s6
          have lv := lv.box B6.bx s6
          have sc := sc.trans s6
          have B := B6
          have dv := dp_same ((sm_one hb s6)) dv
          obtain ⟨j, rfl⟩ : ∃ j : Nat, r = (j : Int) := ⟨r.toNat, by omega⟩
          have hj : j < xs.length := by omega
          obtain ⟨c, gc, dpc⟩ := dpAll_map_at hx (List.getElem?_eq_getElem hj)
          obtain ⟨rr, er, hrr⟩ := col_dp (dp_same s6' dpc)
          have hnm := pal.wd c (List.mem_of_getElem? gc)
          refine ⟨ca, _, j, _, rfl, rfl, sqt_off (same_tup s6' hc), atI_nat (List.getElem?_eq_getElem hj), ?_⟩
          rw [er]
          refine ⟨rr, _, 0, _, rfl, rfl, sqt_off hrr, rfl, ?_⟩
          refine ⟨_, rfl, _, rfl, _, rfl, _, rfl, _, _, rfl, rfl, _, rfl, _, rfl, _, _, rfl, rfl, (by show 2 ≤ sizeLine; decide), fun a1 na1 => ?_⟩
          have fa1 := off_new (o := .lst [.int 2, .int 60]) lv na1
          have lv := lv.put (o := .lst [.int 2, .int 60]) na1
          have B := B.put (o := .lst [.int 2, .int 60]) na1
          have sc := sc.trans (sm_put (S := [b]) (o := .lst [.int 2, .int 60]) na1)
          generalize upd H6 a1 (.lst [.int 2, .int 60]) = H7 at fa1 lv B sc  ⊢
          refine ⟨_, rfl, b, 2, _, rfl, (by decide), (by decide), B, by omega, fun H8 r2 r20 r21 B8 s8 => ?_⟩
          have lv := lv.box B8.bx s8
          have sc := sc.trans s8
          have B := B8
          have fa1 := (sm_one hb s8) _ _ fa1
          obtain ⟨e1, ee1, e10⟩ : ∃ e1 : Int, atI [V.int 2, .int 60] r2 = some (.int e1) ∧ 1 ≤ e1 := by
            have h : r2 = 0 ∨ r2 = 1 := by omega
            rcases h with rfl | rfl
            · exact ⟨_, rfl, by decide⟩
            · exact ⟨_, rfl, by decide⟩
          refine ⟨a1, _, r2, _, rfl, rfl, SqL.of (at_off fa1), ee1, _, _, rfl, b, _, _, rfl, (by split <;> omega), (by split <;> omega), B, by omega, fun Hz g g0 g1 B9 s9 => ⟨_, _, rfl, rfl, (by show 4 ≤ sizeLine; decide), fun t nt => ?_⟩⟩
          have g2 : g < 60 - f := by split at g1 <;> omega
          have lv := lv.box B9.bx s9
          have sc := sc.trans s9
          have B := B9
          obtain ⟨tm, etm⟩ : ∃ tm : Tm, tm = (z, c.1, f, f + 1 + g) := ⟨_, rfl⟩
          have tok : TmOk tm := by rw [etm]; exact ⟨hz, hnm, ⟨f0, by show f ≤ 60; omega⟩, ⟨by show 0 ≤ f + 1 + g; omega, by show f + 1 + g ≤ 60; omega⟩⟩
          show Q _ (upd Hz t (HO.tup [.str z, .str c.1, .int f, .int (f + 1 + g)]))
          have dtm := off_new (o := HO.tup [.str z, .str c.1, .int f, .int (f + 1 + g)]) lv nt
          exact q _ t (z, c.1, f, f + 1 + g) ((B.put nt).mono (by omega)) (sc.trans (sm_put nt)) (by rw [← eS]; exact .tup (.inl (.inl dtm)) (.cons (.str _) (.cons (.str _) (.cons (.int _) (.cons (.int _) .nil))))) (by rw [← etm]; exact tok) ⟨c, List.mem_of_getElem? gc, rfl⟩ rfl
        have lv := lv.box B6.bx s6
        have sc := sc.trans s6
        have B := B6
        have dv := dp_same ((sm_one hb s6)) dv
        have dpt := dp_same ((sm_one hb s6)) dpt
        obtain ⟨ap, us, eap, hs, da⟩ := dp_lst dpt
        have lus : us.length = ts.length := dpAll_map_len da
        have lts : 0 < ts.length := by
          cases ts with
          | nil => cases hts
          | cons _ _ => exact Nat.succ_pos _
        have lt9 := tsok.1
        rw [eap]
        refine ⟨_, rfl, _, rfl, _, rfl, _, _, rfl, .inl ⟨_, sq_off hs, rfl⟩, b, _, _, rfl, (by omega), (by omega), B, by omega, fun H7 i i0 i1 B7 s7 => ?_⟩
        have s7' : Sm S H6 H7 := sm_one hb s7
        have lv := lv.box B7.bx s7
        have sc := sc.trans s7
        have B := B7
        obtain ⟨j, rfl⟩ : ∃ j : Nat, i = (j : Int) := ⟨i.toNat, by omega⟩
        have hj : j < us.length := by omega
        obtain ⟨tr, gt, dtr⟩ := dpAll_map_at da (List.getElem?_eq_getElem hj)
        obtain ⟨rr, er, hrr⟩ := tr_dp (dp_same s7' dtr)
        have trk := tsok.2 tr (List.mem_of_getElem? gt)
        obtain ⟨t1, t2⟩ := trk.a
        obtain ⟨t3, t4⟩ := trk.b
        obtain ⟨c, hcm, ecn⟩ := trk.c
        have hnm : Nm tr.2.1 := by rw [← ecn]; exact pal.wd c hcm
        refine ⟨ap, _, j, _, rfl, rfl, s7'.seq hs |> sq_off, atI_nat (List.getElem?_eq_getElem hj), ?_⟩
        rw [er]
        refine ⟨rr, _, rfl, sqt_off hrr, rfl, _, _, rfl, _, _, rfl, _, _, rfl, _, _, rfl, rfl, ?_⟩
        have fin : ∀ (Hz : Hp) (x y : Int) (t : Addr), Bp Hz b (n + 10) → Sm [b] H Hz → Live S Hz → Hz t = none → 0 ≤ x → x ≤ 60 → 0 ≤ y → y ≤ 60 → Q (.ref t) (upd Hz t (.tup [.str z, .str tr.2.1, .int x, .int y])) := fun Hz x y t Bz sz lz nt x0 x1 y0 y1 => by
          have dtm := off_new (o := HO.tup [.str z, .str tr.2.1, .int x, .int y]) lz nt
          exact q _ t (z, tr.2.1, x, y) (Bz.put nt) (sz.trans (sm_put nt)) (by rw [← eS]; exact .tup (.inl (.inl dtm)) (.cons (.str _) (.cons (.str _) (.cons (.int _) (.cons (.int _) .nil))))) ⟨hz, hnm, ⟨x0, x1⟩, ⟨y0, y1⟩⟩ ⟨c, hcm, ecn⟩ rfl
        refine ⟨_, rfl, _, rfl, _, rfl, _, rfl, _, _, rfl, rfl, b, _, _, rfl, (by omega), (by omega), B, by omega, fun H8 f f0 f1 B8 s8 => ⟨_, _, rfl, rfl, ?_⟩⟩
        have lv := lv.box B8.bx s8
        have sc := sc.trans s8
        have B := B8
        refine ⟨_, rfl, _, _, rfl, rfl, _, rfl, _, rfl, _, rfl, _, _, rfl, rfl, b, _, _, rfl, (by omega), (by omega), B, by omega, fun H9 g g0 g1 B9 s9 => ⟨_, _, rfl, rfl, ?_⟩⟩
        have lv := lv.box B9.bx s9
        have sc := sc.trans s9
        have B := B9
        refine ⟨_, rfl, b, 8, _, rfl, (by decide), (by decide), B, by omega, fun H10 r8 r80 r81 B10 s10 => ⟨rfl, _, rfl, ite2 (fun h8 => ?_) (fun h8 => ?_)⟩⟩
        · skip
          have lv := lv.box B10.bx s10
          have sc := sc.trans s10
          have B := B10
          refine ⟨_, rfl, _, rfl, _, rfl, _, _, rfl, rfl, _, _, rfl, _, rfl, (by show 4 ≤ sizeLine; decide), fun t nt => ?_⟩
          exact fin _ _ _ t (B.mono (by omega)) sc lv nt (by split <;> omega) (by split <;> omega) (by omega) (by omega)
        · skip
          have lv := lv.box B10.bx s10
          have sc := sc.trans s10
          have B := B10
          refine ⟨_, rfl, _, rfl, _, rfl, _, rfl, _, rfl, b, 8, _, rfl, (by decide), (by decide), B, by omega, fun H11 r9 r90 r91 B11 s11 => ⟨rfl, .inr ⟨_, rfl, _, _, rfl, rfl, _, _, rfl, (by show 4 ≤ sizeLine; decide), fun t nt => ?_⟩⟩⟩
          have lv := lv.box B11.bx s11
          have sc := sc.trans s11
          have B := B11
          generalize hbb : (if decide (V.int r9 = V.int 0) = true then (1 : Int) else 0) = bb
          have b01 : 0 ≤ bb ∧ bb ≤ 1 := by rw [← hbb]; split <;> decide
          exact fin _ _ _ t (B.mono (by omega)) sc lv nt (by omega) (by omega) (by split <;> omega) (by split <;> omega)

end
end Pot

namespace Pot
open PySem PySem.Spec PyProof.Rows L2
section
variable {P : Program} {w : World} {K : PySem.W.Frag} {mg : Str → Option Value} {base : Heap}
/-! ### a loop told by what stands at each turn -/
theorem loop_it {J : It} {n : Nat} {G : Hp → Prop} {Y : Nat → Hp → V → Hp → Prop} (w : Walk J n G Y) {Body : (Hp → Prop) → V → Hp → Prop} {Hs : Hp} {Qd : Hp → Prop} (R : Nat → Hp → Prop) (hst : R 0 Hs) (hgo : ∀ i H, i ≤ n → R i H → G H)
    (step : ∀ i x H H', i < n → R i H → Y i H x H' → Body (R (i + 1)) x H') (fin : ∀ H, R n H → Qd H) :
    ∃ W : Nat → Nat → Hp → Prop, (∃ m, W 0 m Hs) ∧ ∀ i m H, W i m H → (J.stop i H ∧ Qd H) ∨ (J.go i H ∧ ∃ Nx : Hp → Prop, (∀ H', Nx H' → ∃ m', m' < m ∧ W (i + 1) m' H') ∧ ∀ x H', J.yld i H x H' → Body Nx x H') := by
  let W : Nat → Nat → Hp → Prop := fun i m H => i + m = n ∧ R i H
  refine ⟨W, ⟨n, Nat.zero_add n, hst⟩, ?_⟩
  intro i m H hW
  have hG := hgo i H (by have := hW.1; omega) hW.2
  rcases Nat.eq_zero_or_pos m with z | z
  · have en : i = n := by have := hW.1; omega
    rw [en] at hW ⊢
    exact Or.inl (And.intro (w.stops H hG) (fin H hW.2))
  · have hl : i < n := by have := hW.1; omega
    refine Or.inr (And.intro (w.goes i H hl hG) ⟨R (i + 1), fun H' hR => ⟨m - 1, by omega, ⟨by have := hW.1; omega, hR⟩⟩, ?_⟩)
    intro x H' hy
    exact step i x H H' hl hW.2 (w.yields i H x H' hl hG hy)
/-! ### offers: the turns of a colour -/
abbrev Off5 : Type := Nat × Nat × Int × Int × Int
def o5V (t : Addr) : V := .ref t
def o5D (o : Off5) : PyData := .tuple [.int (o.1 : Nat), .int (o.2.1 : Nat), .int o.2.2.1, .int o.2.2.2.1, .int o.2.2.2.2]
def selT (g : Int) (z : Str) (i : Nat) : List Trn → Nat → List Off5
  | [], _ => []
  | t :: ts, j => (if t.2.1 = z then [(i, j, t.2.2.1, t.2.2.2, g)] else []) ++ selT g z i ts (j + 1)
def selP (g : Int) (z : Str) : List (List Trn) → Nat → List Off5
  | [], _ => []
  | ts :: ps, i => selT g z i ts 0 ++ selP g z ps (i + 1)
theorem selT_app (g : Int) (z : Str) (i : Nat) : ∀ (a b : List Trn) (j : Nat), selT g z i (a ++ b) j = selT g z i a j ++ selT g z i b (j + a.length)
  | [], b, j => by simp [selT]
  | t :: a, b, j => by
    show _ ++ selT g z i (a ++ b) (j + 1) = (_ ++ selT g z i a (j + 1)) ++ _
    rw [selT_app g z i a b (j + 1), List.append_assoc, List.length_cons, show j + 1 + a.length = j + (a.length + 1) by omega]
theorem selP_app (g : Int) (z : Str) : ∀ (a b : List (List Trn)) (j : Nat), selP g z (a ++ b) j = selP g z a j ++ selP g z b (j + a.length)
  | [], b, j => by simp [selP]
  | t :: a, b, j => by
    show _ ++ selP g z (a ++ b) (j + 1) = (_ ++ selP g z a (j + 1)) ++ _
    rw [selP_app g z a b (j + 1), List.append_assoc, List.length_cons, show j + 1 + a.length = j + (a.length + 1) by omega]
theorem selT_take {g : Int} {z : Str} {i : Nat} {ts : List Trn} {j : Nat} {t : Trn} (h : ts[j]? = some t) : selT g z i (ts.take (j + 1)) 0 = selT g z i (ts.take j) 0 ++ (if t.2.1 = z then [(i, j, t.2.2.1, t.2.2.2, g)] else []) := by
  have hj := (List.getElem?_eq_some_iff.mp h).1
  rw [List.take_add_one, h, selT_app]
  show _ ++ ((if t.2.1 = z then _ else _) ++ []) = _
  rw [List.append_nil, List.length_take, Nat.min_eq_left (by omega), Nat.zero_add]
theorem selP_take {g : Int} {z : Str} {ps : List (List Trn)} {i : Nat} {ts : List Trn} (h : ps[i]? = some ts) : selP g z (ps.take (i + 1)) 0 = selP g z (ps.take i) 0 ++ selT g z i ts 0 := by
  have hj := (List.getElem?_eq_some_iff.mp h).1
  rw [List.take_add_one, h, selP_app]
  show _ ++ (selT g z _ ts 0 ++ []) = _
  rw [List.append_nil, List.length_take, Nat.min_eq_left (by omega), Nat.zero_add]
theorem selT_len (g : Int) (z : Str) (i : Nat) : ∀ (a : List Trn) (j : Nat), (selT g z i a j).length ≤ a.length
  | [], _ => Nat.le_refl _
  | t :: a, j => by
    have := selT_len g z i a (j + 1)
    show ((if t.2.1 = z then [((i, j, t.2.2.1, t.2.2.2, g) : Off5)] else []) ++ selT g z i a (j + 1)).length ≤ a.length + 1
    rw [List.length_append]
    have : (if t.2.1 = z then [((i, j, t.2.2.1, t.2.2.2, g) : Off5)] else []).length ≤ 1 := by split <;> simp
    omega
theorem selP_len {g : Int} {z : Str} : ∀ {ps : List (List Trn)} (j : Nat), (∀ p ∈ ps, p.length ≤ 9) → (selP g z ps j).length ≤ 9 * ps.length
  | [], _, _ => Nat.le_refl _
  | t :: a, j, h => by
    have h1 := selP_len (g := g) (z := z) (ps := a) (j + 1) fun p hp => h p (List.mem_cons_of_mem _ hp)
    have h2 := selT_len g z j t 0
    have h3 := h t List.mem_cons_self
    show (selT g z j t 0 ++ selP g z a (j + 1)).length ≤ 9 * (a.length + 1)
    rw [List.length_append]
    omega
abbrev s_offers_of : Stmt := topS 11
def n_offers_of : List Str := ["palette", "pots", "colour", "pot", "turns", "number", "turn"]
theorem sc_offers_of : FnScope n_offers_of ["palette", "pots", "colour"] (defScope s_offers_of) := ⟨rfl, rfl, rfl, by decide +kernel, rfl, by decide +kernel, by decide +kernel⟩
def spOffers (K : PySem.W.Frag) : Sp := fun vs H Q _ => ∃ (P : Addr) (v : V) (cs : List Col) (ws : List Wsh) (ps : List (List Trn)) (c : Col), vs = [v, .ref P, .str c.1] ∧ Dp K H v (palD cs ws) ∧ Dp K H (.ref P) (potsD ps) ∧ PotsOk cs ps ∧ cs.length ≤ 20 ∧ c ∈ cs ∧ colF cs c.1 = some c ∧
  ∀ (H' : Hp) (L : Addr) (us : List V), Same H H' → H L = none → H' L = some (.lst us) → DpAll K H' us ((selP c.2.2.2 c.1 ps 0).map o5D) → Q (.ref L) H'
set_option maxHeartbeats 2000000 in
theorem ok_offers {f : Addr} {fd : FuncData} {k : Nat} (F : Fun K "offers_of" "offers_of" s_offers_of f fd) (T : Txt mg) (c_colour_row : Cl P w K mg base (k + 1) "colour_row" (spColour K)) : FnOk P w K mg base CX0 (k + 2) f fd ["palette", "pots", "colour"] (spOffers K) := by
  refine F.ok sc_offers_of (fun vs H Q E h => ?_) (fun cdv A outer s H vs Q E hr h => ?_)
  · obtain ⟨P, v, cs, ws, ps, c, rfl, _⟩ := h
    rfl
  · obtain ⟨P, v, cs, ws, ps, c, rfl, dv, dps, pok, hc20, hcm, hcf, q⟩ := h
    have nd := sc_offers_of.nd
    /- 0 palette, 1 pots, 2 colour, 3 pot, 4 turns, 5 number, 6 turn -/
    refine ⟨_, (pss_one (ps_ret (pe_lc2 (own := [("pot", 3), ("turns", 4), ("number", 5), ("turn", 6)]) (vs1 := [5, 6]) rfl nd (ki_enum (K := K) (by rfl) T.enumerate (pa_cons (pv 1) pa_nil)) (blkOk_by (N := n_offers_of) (sc := defScope s_offers_of) (by decide +kernel)) (by decide) (fun _ _ _ _ _ => (kg_tup (K := K) (n := 2) (pgs_cons (pg_name (i := 3) nd rfl (.inl rfl)) (pgs_cons (pg_name (i := 4) nd rfl (.inl rfl)) pgs_nil)))) (fun _ _ _ _ _ => pts_nil) (fun _ _ _ _ _ => (ki_enum (K := K) (by rfl) T.enumerate (pa_cons (pv 4) pa_nil))) (fun _ _ _ _ _ => (kg_tup (K := K) (n := 2) (pgs_cons (pg_name (i := 5) nd rfl (.inl rfl)) (pgs_cons (pg_name (i := 6) nd rfl (.inl rfl)) pgs_nil)))) (fun _ _ _ _ _ => (pts_one (pt_cmpR op_eq (pe_ix (kx_tup (K := K)) (pv 6) pe_int (fun _ _ => rfl)) (pv 2) (nomark _)))) (fun _ _ _ _ _ => (pe_tup (pa_cons (pv 3) (pa_cons (pv 5) (pa_cons (pe_ix (kx_tup (K := K)) (pv 6) pe_int (fun _ _ => rfl)) (pa_cons (pe_ix (kx_tup (K := K)) (pv 6) pe_int (fun _ _ => rfl)) (pa_cons (pe_ix (kx_tup (K := K)) (pe_cl c_colour_row hr (by omega) (by rfl) (pa_cons (pv 0) (pa_cons (pv 2) pa_nil))) pe_int (fun _ _ => rfl)) pa_nil)))))))))), ?_⟩
    obtain ⟨P', xs, eP, hs, da⟩ := dp_lst dps
    have eP2 := V.ref.inj eP
    subst eP2
    have lxs : xs.length = ps.length := dpAll_map_len da
    refine ⟨_, rfl, P, _, rfl, hs, fun D nD => ?_⟩
    have lvD : ∀ {Hx : Hp} {us : List V}, Hx D = some (.lst us) → Live [D] Hx := fun h x hx e => by rw [List.mem_singleton.mp hx, h] at e; cases e
    refine loop_it (walk_enum (xs := xs)) (fun i Hx => Same H Hx ∧ ∃ us, Hx D = some (.lst us) ∧ DpAll K (off Hx [D]) us ((selP c.2.2.2 c.1 (ps.take i) 0).map o5D)) ⟨same_upd nD, [], upd_same, .nil⟩ (fun i Hx _ h => h.1.seq hs) ?_ ?_
    · rintro i x H1 H2 hi ⟨s1, us, hD, du⟩ ⟨t, x1, x2, rfl, nt, rfl, g1, g2⟩
      cases g1
      replace g2 : xs[i]? = some x2 := g2
      obtain ⟨ts, gts, dts⟩ := dpAll_map_at da g2
      have tsk := pok.e ts (List.mem_of_getElem? gts)
      obtain ⟨a4, us4, ea4, hs4, da4⟩ := dp_lst dts
      subst ea4
      have lts : us4.length = ts.length := dpAll_map_len da4
      have st := same_upd (o := .tup [.int (i : Nat), .ref a4]) nt
      have ft : upd H1 t (.tup [.int (i : Nat), .ref a4]) t = _ := upd_same
      have hD := st _ _ hD
      have du := dpAll_same (sm_put (S := [D]) (o := .tup [.int (i : Nat), .ref a4]) nt) du
      have s1 := s1.trans st
      generalize upd H1 t (.tup [.int (i : Nat), .ref a4]) = H2 at ft hD du s1 ⊢
      refine ⟨t, _, rfl, .inl (.inl ft), rfl, _, _, rfl, _, _, rfl, rfl, rfl, tYes_at ?_⟩
      rw [if_pos rfl]
      refine ⟨_, rfl, a4, _, rfl, s1.seq hs4, ?_⟩
      clear ft nt st
      have hi8 := pok.l
      have lsel := selP_len (g := c.2.2.2) (z := c.1) (ps := ps.take i) 0 (fun p hp => (pok.e p (List.mem_of_mem_take hp)).1)
      have ltk : (ps.take i).length ≤ 8 := by rw [List.length_take]; omega
      refine loop_it (walk_enum (xs := us4)) (fun j Hx => Same H Hx ∧ ∃ us, Hx D = some (.lst us) ∧ DpAll K (off Hx [D]) us ((selP c.2.2.2 c.1 (ps.take i) 0 ++ selT c.2.2.2 c.1 i (ts.take j) 0).map o5D)) ⟨s1, us, hD, by rw [show selT c.2.2.2 c.1 i (ts.take 0) 0 = [] from rfl, List.append_nil]; exact du⟩ (fun j Hx _ h => h.1.seq hs4) ?_ ?_
      · clear hD du s1
        rintro j x H3 H4 hj ⟨s3, us, hD, du⟩ ⟨t2, y1, y2, rfl, nt, rfl, g1, g2⟩
        cases g1
        replace g2 : us4[j]? = some y2 := g2
        obtain ⟨tr, gtr, dtr⟩ := dpAll_map_at da4 g2
        obtain ⟨rr, er, hrr⟩ := tr_dp dtr
        subst er
        have st := same_upd (o := .tup [.int (j : Nat), .ref rr]) nt
        have ft : upd H3 t2 (.tup [.int (j : Nat), .ref rr]) t2 = _ := upd_same
        have hD := st _ _ hD
        have du := dpAll_same (sm_put (S := [D]) (o := .tup [.int (j : Nat), .ref rr]) nt) du
        have s3 := s3.trans st
        generalize upd H3 t2 (.tup [.int (j : Nat), .ref rr]) = H4 at ft hD du s3 ⊢
        have hr3 := same_tup s3 hrr
        refine ⟨t2, _, rfl, .inl (.inl ft), rfl, _, _, rfl, _, _, rfl, rfl, rfl, ?_⟩
        have lus : us.length ≤ 90 := by
          rw [dpAll_map_len du, List.length_append]
          have h1 := selT_len c.2.2.2 c.1 i (ts.take j) 0
          have h2 : (ts.take j).length ≤ 9 := by rw [List.length_take]; have := tsk.1; omega
          omega
        refine ⟨_, rfl, rr, _, 1, _, rfl, rfl, hr3, rfl, _, rfl, rfl, _, rfl, ?_⟩
        rw [decS]
        by_cases he : tr.2.1 = c.1
        · rw [decide_eq_true he]
          refine iteT ⟨_, rfl, _, rfl, _, rfl, rr, _, 2, _, rfl, rfl, hr3, rfl, _, rfl, rr, _, 3, _, rfl, rfl, hr3, rfl, ?_⟩
          refine ⟨_, rfl, _, rfl, v, cs, ws, c.1, rfl, dp_same s3 dv, ⟨c, hcm, rfl⟩, fun x c2 hc2 dc => ?_⟩
          rw [hcf] at hc2
          cases hc2
          obtain ⟨r5, er5, hr5⟩ := col_dp dc
          subst er5
          refine ⟨r5, _, 3, _, rfl, rfl, hr5, rfl, (by show 5 ≤ sizeLine; decide), fun p np => ?_⟩
          have fp := off_new (o := .tup [.int (i : Nat), .int (j : Nat), .int tr.2.2.1, .int tr.2.2.2, .int c.2.2.2]) (lvD hD) np
          have hD := same_upd (o := .tup [.int (i : Nat), .int (j : Nat), .int tr.2.2.1, .int tr.2.2.2, .int c.2.2.2]) np _ _ hD
          have du := dpAll_same (sm_put (S := [D]) (o := .tup [.int (i : Nat), .int (j : Nat), .int tr.2.2.1, .int tr.2.2.2, .int c.2.2.2]) np) du
          have s3 := s3.trans (same_upd (o := .tup [.int (i : Nat), .int (j : Nat), .int tr.2.2.1, .int tr.2.2.2, .int c.2.2.2]) np)
          refine ⟨us, hD, Nat.lt_of_le_of_lt lus (by decide), same_put s3 nD, us ++ [.ref p], upd_same, ?_⟩
          have sw : Sm [D] (upd H4 p (.tup [.int (i : Nat), .int (j : Nat), .int tr.2.2.1, .int tr.2.2.2, .int c.2.2.2])) (upd (upd H4 p (.tup [.int (i : Nat), .int (j : Nat), .int tr.2.2.1, .int tr.2.2.2, .int c.2.2.2])) D (.lst (us ++ [.ref p]))) := sm_wr List.mem_cons_self
          have dn : Dp K (off (upd H4 p (.tup [.int (i : Nat), .int (j : Nat), .int tr.2.2.1, .int tr.2.2.2, .int c.2.2.2])) [D]) (.ref p) (o5D (i, j, tr.2.2.1, tr.2.2.2, c.2.2.2)) := .tup (.inl (.inl fp)) (.cons (.int _) (.cons (.int _) (.cons (.int _) (.cons (.int _) (.cons (.int _) .nil)))))
          rw [selT_take gtr, if_pos he, ← List.append_assoc, List.map_append]
          exact dpAll_same sw (dpAll_app' du (.cons dn .nil))
        · rw [decide_eq_false he]
          refine iteF ⟨s3, us, hD, ?_⟩
          rw [selT_take gtr, if_neg he, List.append_nil]
          exact du
      · rintro H3 ⟨s3, us, hD, du⟩
        refine ⟨s3, us, hD, ?_⟩
        rw [selP_take gts]
        rw [List.take_of_length_le (l := ts) (by omega)] at du
        exact du
    · rintro H1 ⟨s1, us, hD, du⟩
      rw [lxs, List.take_of_length_le (Nat.le_refl _)] at du
      exact q H1 D us s1 nD hD (dpAll_same off_sub du)

end
end Pot

namespace Pot
open PySem PySem.Spec PyProof.Rows L2
section
variable {P : Program} {w : World} {K : PySem.W.Frag} {mg : Str → Option Value} {base : Heap}
abbrev s__law_turns_of : Stmt := topS 26
def n__law_turns_of : List Str := ["_law_palette_here", "_law_pots_here", "_law_colour", "_law_gathers", "_law_found", "_law_pot_here", "_law_turns", "_law_number", "_law_turn", "_law_row"]
theorem sc__law_turns_of : FnScope n__law_turns_of ["_law_palette_here", "_law_pots_here", "_law_colour"] (defScope s__law_turns_of) := ⟨rfl, rfl, rfl, by decide +kernel, rfl, by decide +kernel, by decide +kernel⟩
set_option maxHeartbeats 2000000 in
theorem ok_turnsof {f : Addr} {fd : FuncData} {k : Nat} (F : Fun K "_law_turns_of" "_law_turns_of" s__law_turns_of f fd) (T : Txt mg) : FnOk P w K mg base CX0 (k + 1) f fd ["_law_palette_here", "_law_pots_here", "_law_colour"] (spOffers K) := by
  refine F.ok sc__law_turns_of (fun vs H Q E h => ?_) (fun cdv A outer s H vs Q E hr h => ?_)
  · obtain ⟨P, v, cs, ws, ps, c, rfl, _⟩ := h
    rfl
  · obtain ⟨P, v, cs, ws, ps, c, rfl, dv, dps, pok, hc20, hcm, hcf, q⟩ := h
    have nd := sc__law_turns_of.nd
    /- 0 _law_palette_here, 1 _law_pots_here, 2 _law_colour, 3 _law_gathers, 4 _law_found, 5 _law_pot_here, 6 _law_turns, 7 _law_number, 8 _law_turn, 9 _law_row -/
    refine ⟨_, (pss_cons (ps_par (i := 3) (j := 4) rfl nd rfl rfl (by decide) rfl rfl (pa_cons (pe_ix (kx_list (K := K)) (pe_lc (own := [("_law_row", 9)]) rfl nd (ki_tup (K := K) (pe_ix (kx_tup (K := K)) (pv 0) pe_int (fun _ _ => rfl))) (blkOk_by (N := n__law_turns_of) (sc := defScope s__law_turns_of) (by decide +kernel)) (fun _ _ _ _ _ => (pg_name (i := 9) nd rfl (.inl rfl))) (fun _ _ _ _ _ => (pts_one (pt_cmpR op_eq (pe_ix (kx_tup (K := K)) (pv 9) pe_int (fun _ _ => rfl)) (pv 2) (nomark _)))) (fun _ _ _ _ _ => (pe_ix (kx_tup (K := K)) (pv 9) pe_int (fun _ _ => rfl)))) pe_int (fun _ _ => rfl)) (pa_cons (pe_lst pa_nil) pa_nil)) rfl)
      (pss_cons (ps_for PassesOwn.never rfl (ki_enum (K := K) (by rfl) T.enumerate (pa_cons (pv 1) pa_nil)) (kg_tup (K := K) (n := 2) (pgs_cons (pg_name (i := 5) nd rfl (.inl rfl)) (pgs_cons (pg_name (i := 6) nd rfl (.inl rfl)) pgs_nil)))
          (pss_one (ps_for PassesOwn.never rfl (ki_enum (K := K) (by rfl) T.enumerate (pa_cons (pv 6) pa_nil)) (kg_tup (K := K) (n := 2) (pgs_cons (pg_name (i := 7) nd rfl (.inl rfl)) (pgs_cons (pg_name (i := 8) nd rfl (.inl rfl)) pgs_nil)))
              (pss_one (ps_expr (pe_bm PySem.F.plainAttrs_list PySem.F.slot_list_extend PySem.F.type_list_extend mt_extend (pv 4) (pa_cons (pe_op op_rep (pe_lst (pa_cons (pe_op (op_catA) (pe_op (op_catA) (pe_tup (pa_cons (pv 5) (pa_cons (pv 7) pa_nil))) (pe_slice (kl_tup (K := K)) (pv 8) (po_some pe_int) po_none)) (pe_tup (pa_cons (pv 3) pa_nil))) pa_nil)) (pe_callTy call_int1 (by rfl) T.int (by decide +kernel) (pa_cons (pe_cmpR op_eq (pe_ix (kx_tup (K := K)) (pv 8) pe_int (fun _ _ => rfl)) (pv 2) (nomark _)) pa_nil))) pa_nil)))))))
      (pss_one (ps_ret (pv 4))))), ?_⟩
    obtain ⟨P', xs, eP, hs, da⟩ := dp_lst dps
    have eP2 := V.ref.inj eP
    subst eP2
    have lxs : xs.length = ps.length := dpAll_map_len da
    obtain ⟨p, ca, wa, cx, cy, ev, hp, hc, hx, hw, hy⟩ := pal_dp dv
    subst ev
    have lcx : cx.length = cs.length := dpAll_map_len hx
    refine ⟨_, rfl, p, _, 0, .ref ca, rfl, rfl, hp, rfl, ca, rfl, ⟨_, hc⟩, fun D nD => ?_⟩
    obtain ⟨l0, el0⟩ := colF_head hcf
    have hcs := hc20
    refine lc_it (walk_tup (xs := cx)) (PvL H D fun i => ((cs.take i).filter (fun x => decide (x.1 = c.1))).map fun x => V.int x.2.2.2) (pv_start nD rfl) (fun i H2 _ h => same_tup h.1 hc) ?_ ?_
    · rintro i x H2 H3 hi pv ⟨rfl, gx⟩
      obtain ⟨r, gr, dp⟩ := dpAll_map_at hx gx
      obtain ⟨t, rfl, ht⟩ := col_dp dp
      have ht3 := same_tup pv.1 ht
      have l6 := pok.l
      refine ⟨rfl, _, rfl, t, _, 0, _, rfl, rfl, ht3, rfl, _, rfl, rfl, _, rfl, ?_⟩
      rw [decS]
      have small : (((cs.take i).filter (fun x => decide (x.1 = c.1))).map fun x => V.int x.2.2.2).length < sizeLine := by
        rw [List.length_map]
        exact Nat.lt_of_le_of_lt (Nat.le_trans (List.length_filter_le ..) (Nat.le_trans (List.length_take_le' ..) hcs)) (by decide)
      refine ite2 (fun hb => ?_) (fun hb => ?_)
      · refine ⟨_, rfl, t, _, 3, _, rfl, rfl, ht3, rfl, ?_⟩
        refine pv_put nD pv (Same.refl _) ?_ small
        rw [List.take_add_one, gr, Option.toList_some, List.filter_append, List.map_append]; simp [hb]
      · refine pv_skip pv (Same.refl _) ?_
        rw [List.take_add_one, gr, Option.toList_some, List.filter_append, List.map_append]; simp [hb]
    intro H1 pv
    obtain ⟨s1, hD⟩ := pv_end pv (show _ = ((cs.filter (fun x => decide (x.1 = c.1))).map fun x => V.int x.2.2.2) by rw [lcx, List.take_length])
    rw [el0] at hD
    refine ⟨D, _, 0, _, rfl, rfl, SqL.of hD, atI_nat (j := 0) rfl, Nat.zero_le _, fun R nR => ⟨_, _, rfl, ?_⟩⟩
    have nR0 : H R = none := s1.free nR
    have lvR : ∀ {Hx : Hp} {us : List V}, Hx R = some (.lst us) → Live [R] Hx := fun h x hx e => by rw [List.mem_singleton.mp hx, h] at e; cases e
    have hR : upd H1 R (.lst []) R = some (.lst []) := upd_same
    have s2 := s1.trans (same_upd (o := .lst []) nR)
    generalize upd H1 R (.lst []) = H2 at hR s2 ⊢
    refine ⟨_, rfl, P, _, rfl, s2.seq hs, ?_⟩
    refine for_it (walk_enum (xs := xs)) (fun i σ Hx => ∃ (v5 v6 v7 v8 v9 : Option V) (us : List V), σ = [some (.ref p), some (.ref P), some (.str c.1), some (.int c.2.2.2), some (.ref R), v5, v6, v7, v8, v9] ∧ Same H Hx ∧ Hx R = some (.lst us) ∧ DpAll K (off Hx [R]) us ((selP c.2.2.2 c.1 (ps.take i) 0).map o5D)) ⟨_, _, _, _, _, [], rfl, s2, hR, .nil⟩ (fun i σ Hx _ h => by obtain ⟨_, _, _, _, _, _, _, h, _⟩ := h; exact h.seq hs) ?_ ?_
    · clear hR s2
      rintro i x σ H3 H4 hi ⟨v5, v6, v7, v8, v9, us, rfl, s3, hR, du⟩ ⟨t, x1, x2, rfl, nt, rfl, g1, g2⟩
      cases g1
      replace g2 : xs[i]? = some x2 := g2
      obtain ⟨ts, gts, dts⟩ := dpAll_map_at da g2
      have tsk := pok.e ts (List.mem_of_getElem? gts)
      obtain ⟨a4, us4, ea4, hs4, da4⟩ := dp_lst dts
      subst ea4
      have lts : us4.length = ts.length := dpAll_map_len da4
      have st := same_upd (o := .tup [.int (i : Nat), .ref a4]) nt
      have ft : upd H3 t (.tup [.int (i : Nat), .ref a4]) t = _ := upd_same
      have hR := st _ _ hR
      have du := dpAll_same (sm_put (S := [R]) (o := .tup [.int (i : Nat), .ref a4]) nt) du
      have s3 := s3.trans st
      generalize upd H3 t (.tup [.int (i : Nat), .ref a4]) = H4 at ft hR du s3 ⊢
      refine ⟨t, _, rfl, .inl (.inl ft), rfl, _, _, rfl, _, _, rfl, rfl, ?_⟩
      refine ⟨_, rfl, a4, _, rfl, s3.seq hs4, ?_⟩
      clear ft nt st
      have hi8 := pok.l
      have lsel := selP_len (g := c.2.2.2) (z := c.1) (ps := ps.take i) 0 (fun p hp => (pok.e p (List.mem_of_mem_take hp)).1)
      have ltk : (ps.take i).length ≤ 8 := by rw [List.length_take]; omega
      refine for_it (walk_enum (xs := us4)) (fun j σ Hx => ∃ (v7 v8 : Option V) (us : List V), σ = [some (.ref p), some (.ref P), some (.str c.1), some (.int c.2.2.2), some (.ref R), some (.int (i : Nat)), some (.ref a4), v7, v8, v9] ∧ Same H Hx ∧ Hx R = some (.lst us) ∧ DpAll K (off Hx [R]) us ((selP c.2.2.2 c.1 (ps.take i) 0 ++ selT c.2.2.2 c.1 i (ts.take j) 0).map o5D)) ⟨_, _, us, rfl, s3, hR, by rw [show selT c.2.2.2 c.1 i (ts.take 0) 0 = [] from rfl, List.append_nil]; exact du⟩ (fun j σ Hx _ h => by obtain ⟨_, _, _, _, h, _⟩ := h; exact h.seq hs4) ?_ ?_
      · clear hR du s3
        rintro j x σ H5 H6 hj ⟨v7, v8, us, rfl, s3, hR, du⟩ ⟨t2, y1, y2, rfl, nt, rfl, g1, g2⟩
        cases g1
        replace g2 : us4[j]? = some y2 := g2
        obtain ⟨tr, gtr, dtr⟩ := dpAll_map_at da4 g2
        obtain ⟨rr, er, hrr⟩ := tr_dp dtr
        subst er
        have st := same_upd (o := .tup [.int (j : Nat), .ref rr]) nt
        have ft : upd H5 t2 (.tup [.int (j : Nat), .ref rr]) t2 = _ := upd_same
        have hR := st _ _ hR
        have du := dpAll_same (sm_put (S := [R]) (o := .tup [.int (j : Nat), .ref rr]) nt) du
        have s3 := s3.trans st
        generalize upd H5 t2 (.tup [.int (j : Nat), .ref rr]) = H6 at ft hR du s3 ⊢
        have lus : us.length ≤ 90 := by
          rw [dpAll_map_len du, List.length_append]
          have h1 := selT_len c.2.2.2 c.1 i (ts.take j) 0
          have h2 : (ts.take j).length ≤ 9 := by rw [List.length_take]; have := tsk.1; omega
          omega
        refine ⟨t2, _, rfl, .inl (.inl ft), rfl, _, _, rfl, _, _, rfl, rfl, ?_⟩
        refine ⟨_, rfl, .inl ⟨rfl, _, SqL.of hR⟩, _, rfl, _, rfl, (by show 2 ≤ sizeLine; decide), fun t1 nt1 => ?_⟩
        have f1 : upd H6 t1 (.tup [.int (i : Nat), .int (j : Nat)]) t1 = _ := upd_same
        have hR := same_upd (o := .tup [.int (i : Nat), .int (j : Nat)]) nt1 _ _ hR
        have du := dpAll_same (sm_put (S := [R]) (o := .tup [.int (i : Nat), .int (j : Nat)]) nt1) du
        have s3 := s3.trans (same_upd (o := .tup [.int (i : Nat), .int (j : Nat)]) nt1)
        generalize upd H6 t1 (.tup [.int (i : Nat), .int (j : Nat)]) = H7 at f1 hR du s3 ⊢
        refine ⟨_, rfl, 2, rfl, rr, _, rfl, same_tup s3 hrr, (fun h => absurd h.1 (by rw [show (2 : Int) = ((2 : Nat) : Int) from rfl, HT.sIx_nat]; exact (by decide : ¬ min 2 4 = 0))), fun _ t3 nt3 => ?_⟩
        rw [show cutV [V.int tr.1, .str tr.2.1, .int tr.2.2.1, .int tr.2.2.2] (some 2) none = [.int tr.2.2.1, .int tr.2.2.2] from rfl]
        have f3 : upd H7 t3 (.tup [.int tr.2.2.1, .int tr.2.2.2]) t3 = _ := upd_same
        have f1 := same_upd (o := .tup [.int tr.2.2.1, .int tr.2.2.2]) nt3 _ _ f1
        have hR := same_upd (o := .tup [.int tr.2.2.1, .int tr.2.2.2]) nt3 _ _ hR
        have du := dpAll_same (sm_put (S := [R]) (o := .tup [.int tr.2.2.1, .int tr.2.2.2]) nt3) du
        have s3 := s3.trans (same_upd (o := .tup [.int tr.2.2.1, .int tr.2.2.2]) nt3)
        generalize upd H7 t3 (.tup [.int tr.2.2.1, .int tr.2.2.2]) = H8 at f1 f3 hR du s3 ⊢
        refine ⟨t1, t3, _, _, rfl, rfl, .inl (.inl f1), .inl (.inl f3), (by show 4 ≤ sizeLine; decide), (fun h => by cases h), (fun _ h => by cases h), fun _ _ t4 nt4 => ?_⟩
        show tCons _ _ _ (upd H8 t4 (.tup [.int (i : Nat), .int (j : Nat), .int tr.2.2.1, .int tr.2.2.2])) _
        have adv : ∀ {Hx : Hp} {pp : Addr} {o : HO}, Hx pp = none → (Hx R = some (.lst us) ∧ DpAll K (off Hx [R]) us ((selP c.2.2.2 c.1 (ps.take i) 0 ++ selT c.2.2.2 c.1 i (ts.take j) 0).map o5D) ∧ Same H Hx) → ((upd Hx pp o) R = some (.lst us) ∧ DpAll K (off (upd Hx pp o) [R]) us ((selP c.2.2.2 c.1 (ps.take i) 0 ++ selT c.2.2.2 c.1 i (ts.take j) 0).map o5D) ∧ Same H (upd Hx pp o)) :=
          fun n h => ⟨same_upd n _ _ h.1, dpAll_same (sm_put n) h.2.1, h.2.2.trans (same_upd n)⟩
        have A := adv (o := .tup [.int (i : Nat), .int (j : Nat), .int tr.2.2.1, .int tr.2.2.2]) nt4 ⟨hR, du, s3⟩
        have f4 : upd H8 t4 (.tup [.int (i : Nat), .int (j : Nat), .int tr.2.2.1, .int tr.2.2.2]) t4 = _ := upd_same
        generalize upd H8 t4 (.tup [.int (i : Nat), .int (j : Nat), .int tr.2.2.1, .int tr.2.2.2]) = H9 at A f4 ⊢
        clear hR du f1 f3
        refine ⟨_, rfl, (by show 1 ≤ sizeLine; decide), fun t5 nt5 => ?_⟩
        have A := adv (o := .tup [.int c.2.2.2]) nt5 A
        have f5 : upd H9 t5 (.tup [.int c.2.2.2]) t5 = _ := upd_same
        have f4 := same_upd (o := .tup [.int c.2.2.2]) nt5 _ _ f4
        generalize upd H9 t5 (.tup [.int c.2.2.2]) = H10 at A f4 f5 ⊢
        refine ⟨t4, t5, _, _, rfl, rfl, .inl (.inl f4), .inl (.inl f5), (by show 5 ≤ sizeLine; decide), (fun h => by cases h), (fun _ h => by cases h), fun _ _ t6 nt6 => ?_⟩
        show tNil _ (upd H10 t6 (.tup [.int (i : Nat), .int (j : Nat), .int tr.2.2.1, .int tr.2.2.2, .int c.2.2.2])) _
        have f6 := off_new (o := .tup [.int (i : Nat), .int (j : Nat), .int tr.2.2.1, .int tr.2.2.2, .int c.2.2.2]) (lvR A.1) nt6
        have A := adv (o := .tup [.int (i : Nat), .int (j : Nat), .int tr.2.2.1, .int tr.2.2.2, .int c.2.2.2]) nt6 A
        generalize upd H10 t6 (.tup [.int (i : Nat), .int (j : Nat), .int tr.2.2.1, .int tr.2.2.2, .int c.2.2.2]) = H11 at A f6 ⊢
        refine ⟨(by show 1 ≤ sizeLine; decide), fun t7 nt7 => ?_⟩
        have f6 := sm_put (S := [R]) (o := .lst [.ref t6]) nt7 _ _ f6
        have f7 : upd H11 t7 (.lst [.ref t6]) t7 = _ := upd_same
        have A := adv (o := .lst [.ref t6]) nt7 A
        generalize upd H11 t7 (.lst [.ref t6]) = H12 at A f6 f7 ⊢
        have hk : decide (V.str tr.2.1 = V.str c.1) = decide (tr.2.1 = c.1) := decS
        refine ⟨_, rfl, rr, _, 1, _, rfl, rfl, same_tup A.2.2 hrr, rfl, _, rfl, rfl, .inr ⟨_, rfl, ?_⟩⟩
        rw [hk]
        obtain ⟨kk, ekk, k0, k1⟩ : ∃ kk : Int, (if decide (tr.2.1 = c.1) = true then (1 : Int) else 0) = kk ∧ 0 ≤ kk ∧ kk ≤ 1 := ⟨_, rfl, by split <;> decide, by split <;> decide⟩
        have hrep : (List.replicate kk.toNat [V.ref t6]).flatten.length ≤ 1 := by
          have h : kk = 0 ∨ kk = 1 := by omega
          rcases h with rfl | rfl
          · exact Nat.zero_le _
          · exact Nat.le_refl _
        rw [ekk]
        refine ⟨t7, kk, _, rfl, rfl, f7, (by omega), (by omega), (by show 1 * kk.toNat ≤ sizeLine; rw [sizeLine_eq]; omega), fun t8 nt8 => ?_⟩
        have f6 := sm_put (S := [R]) (o := .lst (List.replicate kk.toNat [V.ref t6]).flatten) nt8 _ _ f6
        have f8 : upd H12 t8 (.lst (List.replicate kk.toNat [V.ref t6]).flatten) t8 = _ := upd_same
        have A := adv (o := .lst (List.replicate kk.toNat [V.ref t6]).flatten) nt8 A
        generalize upd H12 t8 (.lst (List.replicate kk.toNat [V.ref t6]).flatten) = H13 at A f6 f8 ⊢
        refine ⟨R, t8, _, _, rfl, rfl, A.1, f8, (by rw [sizeLine_eq]; omega), ?_⟩
        have sw : Sm [R] H13 (upd H13 R (.lst (us ++ (List.replicate kk.toNat [V.ref t6]).flatten))) := sm_wr List.mem_cons_self
        refine ⟨_, _, _, rfl, same_put A.2.2 nR0, upd_same, ?_⟩
        rw [selT_take gtr, ← List.append_assoc, List.map_append]
        refine dpAll_same sw (dpAll_app' A.2.1 ?_)
        by_cases he : tr.2.1 = c.1
        · rw [decide_eq_true he, if_pos rfl] at ekk
          rw [← ekk, if_pos he]
          exact .cons (.tup (.inl (.inl f6)) (.cons (.int _) (.cons (.int _) (.cons (.int _) (.cons (.int _) (.cons (.int _) .nil)))))) .nil
        · rw [decide_eq_false he, if_neg Bool.false_ne_true] at ekk
          rw [← ekk, if_neg he]
          exact .nil
      · rintro σ H5 ⟨v7, v8, us, rfl, s3, hR, du⟩
        rw [List.take_of_length_le (l := ts) (by omega)] at du
        exact ⟨_, _, _, _, _, us, rfl, s3, hR, by rw [selP_take gts]; exact du⟩
    · rintro σ H3 ⟨v5, v6, v7, v8, v9, us, rfl, s3, hR, du⟩
      rw [lxs, List.take_of_length_le (Nat.le_refl _)] at du
      exact ⟨_, rfl, q H3 R us s3 nR0 hR (dpAll_same off_sub du)⟩

end
end Pot

namespace Pot
open PySem PySem.Spec PyProof.Rows L2
section
variable {P : Program} {w : World} {K : PySem.W.Frag} {mg : Str → Option Value} {base : Heap}
/-! ### how many teams want a colour at an hour -/
def wantB (z : Str) (h : Int) (t : Tm) : Bool := decide (t.2.1 = z) && (decide (t.2.2.1 ≤ h) && decide (h < t.2.2.2))
def cw (z : Str) (l : List Tm) (h : Nat) : Nat := (l.filter (wantB z (h : Int))).length
theorem cw_take {z : Str} {l : List Tm} {i : Nat} {t : Tm} {h : Nat} (g : l[i]? = some t) : cw z (l.take (i + 1)) h = cw z (l.take i) h + (if wantB z (h : Int) t = true then 1 else 0) := by
  unfold cw
  rw [List.take_add_one, g, Option.toList_some, List.filter_append, List.length_append]
  congr 1
  by_cases hb : wantB z (h : Int) t = true
  · rw [if_pos hb]; simp [hb]
  · rw [if_neg hb]; simp [hb]
/-- the names of those that want a colour at an hour -/
def wF (z : Str) (l : List Tm) (h : Nat) : List Str := (l.filter (wantB z (h : Int))).map fun t => t.1
theorem cw_le (z : Str) (l : List Tm) (h : Nat) : cw z l h ≤ l.length := List.length_filter_le ..
/-! ### texts in order: the one list that sorted answers -/
def leS (a b : Str) : Bool := !decide (b.cps.toList < a.cps.toList)
def srtS (l : List Str) : List Str := l.mergeSort leS
theorem leS_trans (a b c : Str) (h1 : leS a b = true) (h2 : leS b c = true) : leS a c = true := by
  unfold leS at *
  simp only [Bool.not_eq_true', decide_eq_false_iff_not] at *
  exact List.not_lt.mpr (List.le_trans (List.not_lt.mp h1) (List.not_lt.mp h2))
theorem leS_total (a b : Str) : (leS a b || leS b a) = true := by
  unfold leS
  rw [Bool.or_eq_true]
  rcases List.le_total a.cps.toList b.cps.toList with h | h
  · exact .inl (by simpa using h)
  · exact .inr (by simpa using h)
theorem leS_anti {a b : Str} (h1 : leS a b = true) (h2 : leS b a = true) : a = b := by
  unfold leS at h1 h2
  simp only [Bool.not_eq_true', decide_eq_false_iff_not] at h1 h2
  have e := List.le_antisymm (List.not_lt.mp h1) (List.not_lt.mp h2)
  obtain ⟨⟨x⟩⟩ := a
  obtain ⟨⟨y⟩⟩ := b
  have e : x = y := e
  rw [e]
theorem rising_pw : ∀ (l : List Str) (p : Str), risingS p l = true → (p :: l).Pairwise fun a b => leS a b = true
  | [], p, _ => List.pairwise_singleton _ _
  | x :: r, p, h => by
    have h : (!ltCps x.cps.toList p.cps.toList && risingS x r) = true := h
    rw [Bool.and_eq_true, ltCps_eq] at h
    have ih := rising_pw r x h.2
    have px : leS p x = true := h.1
    refine List.pairwise_cons.mpr ⟨fun y hy => ?_, ih⟩
    rcases List.mem_cons.mp hy with e | e
    · rw [e]; exact px
    · exact leS_trans _ _ _ px ((List.pairwise_cons.mp ih).1 y e)
theorem srt_uniq {ys l : List Str} (p : ys.Perm l) (h : sortedS ys = true) : ys = srtS l := by
  refine List.Perm.eq_of_pairwise (le := fun a b => leS a b = true) (fun a b _ _ h1 h2 => leS_anti h1 h2) ?_ (List.pairwise_mergeSort leS_trans leS_total l) (p.trans (List.mergeSort_perm l _).symm)
  cases ys with
  | nil => exact .nil
  | cons x r => exact rising_pw r x h

abbrev s_wanting : Stmt := topS 14
def n_wanting : List Str := ["teams", "colour", "hour", "team", "wanted", "first", "last"]
theorem sc_wanting : FnScope n_wanting ["teams", "colour", "hour"] (defScope s_wanting) := ⟨rfl, rfl, rfl, by decide +kernel, rfl, by decide +kernel, by decide +kernel⟩
def spWanting (K : PySem.W.Frag) : Sp := fun vs H Q _ => ∃ (A : Addr) (xs : List V) (tms : List Tm) (z : Str) (h : Nat), vs = [.ref A, .str z, .int (h : Nat)] ∧ SqL K H A xs ∧ DpAll K H xs (tms.map tmD) ∧ tms.length ≤ 20 ∧
  ∀ (H' : Hp) (L : Addr) (ys : List Str), Same H H' → H L = none → H' L = some (.lst (ys.map V.str)) → ys.length = cw z tms h → ys = srtS (wF z tms h) → Q (.ref L) H'
set_option maxHeartbeats 2000000 in
theorem ok_wanting {f : Addr} {fd : FuncData} {k : Nat} (F : Fun K "wanting" "wanting" s_wanting f fd) (T : Txt mg) : FnOk P w K mg base CX0 (k + 1) f fd ["teams", "colour", "hour"] (spWanting K) := by
  refine F.ok sc_wanting (fun vs H Q E h => ?_) (fun cdv A outer s H vs Q E hr h => ?_)
  · obtain ⟨A, xs, tms, z, h, rfl, _⟩ := h
    rfl
  · obtain ⟨B, xs, tms, z, h, rfl, hs, da, lt, q⟩ := h
    have nd := sc_wanting.nd
    /- 0 teams, 1 colour, 2 hour, 3 team, 4 wanted, 5 first, 6 last -/
    refine ⟨_, (pss_one (ps_ret (pe_callB (kc_sortedS (K := K)) (by rfl) T.sorted (by decide +kernel) (pa_cons (pe_lc (own := [("team", 3), ("wanted", 4), ("first", 5), ("last", 6)]) rfl nd (ki_list (K := K) (pv 0)) (blkOk_by (N := n_wanting) (sc := defScope s_wanting) (by decide +kernel)) (fun _ _ _ _ _ => (kg_tup (K := K) (n := 4) (pgs_cons (pg_name (i := 3) nd rfl (.inl rfl)) (pgs_cons (pg_name (i := 4) nd rfl (.inl rfl)) (pgs_cons (pg_name (i := 5) nd rfl (.inl rfl)) (pgs_cons (pg_name (i := 6) nd rfl (.inl rfl)) pgs_nil)))))) (fun _ _ _ _ _ => (pts_one ((pw_and (pt_cmpR op_eq (pv 4) (pv 1) (nomark _)) (pw_and1 (pt_chain op_le op_lt (pv 5) (pv 2) (pv 6))))).pt)) (fun _ _ _ _ _ => (pv 3))) pa_nil)))), ?_⟩
    have lxs : xs.length = tms.length := dpAll_map_len da
    refine ⟨_, rfl, B, rfl, ⟨_, hs⟩, fun D nD => ?_⟩
    refine lc_it (walk_list (xs := xs)) (PvL H D fun i => ((tms.take i).filter (wantB z (h : Int))).map fun t => V.str t.1) (pv_start nD rfl) (fun i H2 _ p => p.1.seq hs) ?_ ?_
    · rintro i x H2 H3 hi pv ⟨rfl, gx⟩
      obtain ⟨t, gt, dt⟩ := dpAll_map_at da gx
      obtain ⟨a, rfl, ha⟩ := tm_dp dt
      have ha3 := same_tup pv.1 ha
      have small : (((tms.take i).filter (wantB z (h : Int))).map fun t => V.str t.1).length < sizeLine := by
        rw [List.length_map]
        exact Nat.lt_of_le_of_lt (Nat.le_trans (List.length_filter_le ..) (Nat.le_trans (List.length_take_le' ..) lt)) (by decide)
      have yes : wantB z (h : Int) t = true → ((tms.take (i + 1)).filter (wantB z (h : Int))).map (fun t => V.str t.1) = ((tms.take i).filter (wantB z (h : Int))).map (fun t => V.str t.1) ++ [V.str t.1] := fun hb => by
        rw [List.take_add_one, gt, Option.toList_some, List.filter_append, List.map_append]; simp [hb]
      have no : wantB z (h : Int) t = false → ((tms.take (i + 1)).filter (wantB z (h : Int))).map (fun t => V.str t.1) = ((tms.take i).filter (wantB z (h : Int))).map (fun t => V.str t.1) := fun hb => by
        rw [List.take_add_one, gt, Option.toList_some, List.filter_append, List.map_append]; simp [hb]
      refine ⟨a, _, rfl, ha3, rfl, _, _, rfl, _, _, rfl, _, _, rfl, _, _, rfl, rfl, rfl, ?_⟩
      have est : (((((List.set (wipe (L2.start n_wanting [V.ref B, V.str z, V.int (h : Nat)]) [3, 4, 5, 6]) 3 (some (V.str t.1))).set 4 (some (V.str t.2.1))).set 5 (some (V.int t.2.2.1))).set 6 (some (V.int t.2.2.2))) : L2.St) = [some (V.ref B), some (V.str z), some (V.int (h : Nat)), some (V.str t.1), some (V.str t.2.1), some (V.int t.2.2.1), some (V.int t.2.2.2)] := rfl
      have evs : List.map (fun x : Str × Nat => x.snd) [(Str.ofString "team", 3), (Str.ofString "wanted", 4), (Str.ofString "first", 5), (Str.ofString "last", 6)] = [3, 4, 5, 6] := rfl
      rw [evs, est]
      refine ⟨_, rfl, _, rfl, rfl, _, rfl, ?_⟩
      rw [decS]
      refine ite2 (fun h1 => ?_) (fun h1 => ?_)
      · refine ⟨_, rfl, _, rfl, _, _, rfl, rfl, _, rfl, ite2 (fun h2 => ?_) (fun h2 => ?_)⟩
        · refine ⟨_, rfl, _, _, rfl, rfl, _, rfl, ite2 (fun h3 => ?_) (fun h3 => ?_)⟩
          · exact ⟨_, rfl, pv_put nD pv (Same.refl _) (yes (by unfold wantB; rw [h1, h2, h3]; rfl)) small⟩
          · exact pv_skip pv (Same.refl _) (no (by unfold wantB; rw [h1, h2, Bool.not_eq_true _ |>.mp h3]; rfl))
        · exact ⟨_, rfl, iteF (pv_skip pv (Same.refl _) (no (by unfold wantB; rw [h1, Bool.not_eq_true _ |>.mp h2]; rfl)))⟩
      · exact pv_skip pv (Same.refl _) (no (by unfold wantB; rw [Bool.not_eq_true _ |>.mp h1]; rfl))
    · intro H2 pv
      obtain ⟨s2, hD⟩ := pv_end pv (show _ = (tms.filter (wantB z (h : Int))).map fun t => V.str t.1 by rw [lxs, List.take_length])
      have e2 : (tms.filter (wantB z (h : Int))).map (fun t => V.str t.1) = ((tms.filter (wantB z (h : Int))).map fun t => t.1).map V.str := by rw [List.map_map]; rfl
      rw [e2] at hD
      have l2 : ((tms.filter (wantB z (h : Int))).map fun t => t.1).length < 64 := by
        rw [List.length_map]
        exact Nat.lt_of_le_of_lt (Nat.le_trans (List.length_filter_le ..) lt) (by decide)
      refine ⟨D, _, rfl, SqL.of hD, l2, fun ys L pm so nL => ?_⟩
      exact q _ L ys (s2.trans (same_upd nL)) (s2.free nL) upd_same (by rw [pm.length_eq, List.length_map]; rfl) (srt_uniq pm so)
def cwL (z : Str) (l : List Tm) (n : Nat) : List Int := (List.range n).map fun h => ((cw z l h : Nat) : Int)
def spWants (K : PySem.W.Frag) : Sp := fun vs H Q _ => ∃ (A : Addr) (xs : List V) (tms : List Tm) (z : Str) (n : Nat), vs = [.ref A, .str z, .int (n : Nat)] ∧ SqL K H A xs ∧ DpAll K H xs (tms.map tmD) ∧ tms.length ≤ 20 ∧ (∀ t ∈ tms, TmOk t) ∧ n ≤ 60 ∧
  ∀ (H' : Hp) (L : Addr), Same H H' → H L = none → H' L = some (.lst ((cwL z tms n).map V.int)) → Q (.ref L) H'
abbrev s_wants_of : Stmt := topS 12
def n_wants_of : List Str := ["teams", "colour", "hours", "hour"]
theorem sc_wants_of : FnScope n_wants_of ["teams", "colour", "hours"] (defScope s_wants_of) := ⟨rfl, rfl, rfl, by decide +kernel, rfl, by decide +kernel, by decide +kernel⟩
theorem ok_wantsof {f : Addr} {fd : FuncData} {k : Nat} (F : FunV K "wants_of" s_wants_of [.int 60] f fd) (T : Txt mg) (c_wanting : Cl P w K mg base (k + 1) "wanting" (spWanting K)) : FnOk P w K mg base CX0 (k + 2) f fd ["teams", "colour", "hours"] (spWants K) := by
  refine okD F sc_wants_of (fun vs H Q E h => ?_) (fun cdv A outer s H vs Q E hr h => ?_)
  · obtain ⟨A, xs, tms, z, n, rfl, _⟩ := h
    rfl
  · obtain ⟨B, xs, tms, z, n, rfl, hs, da, lt, tok, n60, q⟩ := h
    have nd := sc_wants_of.nd
    /- 0 teams, 1 colour, 2 hours, 3 hour -/
    refine ⟨_, (pss_one (ps_ret (pe_lc (own := [("hour", 3)]) rfl nd (pi_range1 (by rfl) T.range (pa_cons (pv 2) pa_nil)) (blkOk_by (N := n_wants_of) (sc := defScope s_wants_of) (by decide +kernel)) (fun _ _ _ _ _ => (pg_name (i := 3) nd rfl (.inl rfl))) (fun _ _ _ _ _ => pts_nil) (fun _ _ _ _ _ => (pe_callB (kc_len (K := K)) (by rfl) T.len PySem.boot_len (pa_cons (pe_cl c_wanting hr (by omega) (by rfl) (pa_cons (pv 0) (pa_cons (pv 1) (pa_cons (pv 3) pa_nil)))) pa_nil)))))), ?_⟩
    refine ⟨_, rfl, _, rfl, (by omega), (by omega), fun D nD => ?_⟩
    refine lc_it walk_range (PvL H D fun i => ((List.range i).map fun h => ((cw z tms h : Nat) : Int)).map V.int) (pv_start nD rfl) (fun _ _ _ _ => trivial) ?_ ?_
    · rintro i x H2 H3 hi pv ⟨rfl, rfl⟩
      refine ⟨rfl, tYes_at ?_⟩
      rw [if_pos rfl]
      have hi2 : i < n := by omega
      refine ⟨_, rfl, _, rfl, _, rfl, B, xs, tms, z, i, (by show [V.ref B, V.str z, V.int (0 + (i : Int))] = _; rw [Int.zero_add]), pv.1.seq hs, dpAll_same pv.1 da, lt, fun H4 L ys s4 nL hL ly _ => ?_⟩
      refine ⟨_, _, rfl, .inl ⟨_, SqL.of hL, rfl⟩, ?_⟩
      rw [List.length_map, ly]
      exact pv_put nD pv s4 (by rw [List.range_succ, List.map_append, List.map_append]; rfl) (by rw [List.length_map, List.length_map, List.length_range, sizeLine_eq]; omega)
    · intro H2 pv
      obtain ⟨s2, hD⟩ := pv_end pv rfl
      rw [Int.toNat_natCast] at hD
      exact q _ D s2 nD hD
abbrev s__law_wants : Stmt := topS 27
def n__law_wants : List Str := ["_law_teams", "_law_colour", "_law_hours", "_law_found", "_law_team_here", "_law_own", "_law_first", "_law_last", "_law_hour"]
theorem sc__law_wants : FnScope n__law_wants ["_law_teams", "_law_colour", "_law_hours"] (defScope s__law_wants) := ⟨rfl, rfl, rfl, by decide +kernel, rfl, by decide +kernel, by decide +kernel⟩
/-- the counts while a team's hours are gone through -/
def cwJ (z : Str) (l : List Tm) (t : Tm) (j n : Nat) : List Int := (List.range n).map fun h => ((cw z l h : Nat) : Int) + (if t.2.1 = z ∧ t.2.2.1 ≤ (h : Int) ∧ (h : Int) < t.2.2.1 + (j : Nat) then 1 else 0)
theorem cwJ_zero (z : Str) (l : List Tm) (t : Tm) (n : Nat) : cwJ z l t 0 n = cwL z l n := by
  unfold cwJ cwL
  refine List.map_congr_left fun h _ => ?_
  rw [if_neg (by omega), Int.add_zero]
theorem cwJ_end {z : Str} {l : List Tm} {i : Nat} {t : Tm} {n : Nat} (g : l[i]? = some t) (h0 : 0 ≤ t.2.2.1) : cwJ z (l.take i) t ((if (n : Int) < t.2.2.2 then (n : Int) else t.2.2.2) - t.2.2.1).toNat n = cwL z (l.take (i + 1)) n := by
  unfold cwJ cwL
  refine List.map_congr_left fun h hh => ?_
  have hn := List.mem_range.mp hh
  rw [cw_take g, Int.natCast_add]
  congr 1
  have e : wantB z (h : Int) t = true ↔ (t.2.1 = z ∧ t.2.2.1 ≤ (h : Int) ∧ (h : Int) < t.2.2.1 + (((if (n : Int) < t.2.2.2 then (n : Int) else t.2.2.2) - t.2.2.1).toNat : Nat)) := by
    unfold wantB
    rw [Bool.and_eq_true, Bool.and_eq_true, decide_eq_true_eq, decide_eq_true_eq, decide_eq_true_eq]
    constructor
    · rintro ⟨a, b, c⟩
      refine ⟨a, b, ?_⟩
      split <;> omega
    · rintro ⟨a, b, c⟩
      refine ⟨a, b, ?_⟩
      split at c <;> omega
  by_cases hb : wantB z (h : Int) t = true
  · rw [if_pos hb, if_pos (e.mp hb)]; rfl
  · rw [if_neg hb, if_neg (fun x => hb (e.mpr x))]; rfl
theorem cwJ_len (z : Str) (l : List Tm) (t : Tm) (j n : Nat) : (cwJ z l t j n).length = n := by unfold cwJ; rw [List.length_map, List.length_range]
theorem cwJ_at {z : Str} {l : List Tm} {t : Tm} {j n m : Nat} (hm : m < n) : (cwJ z l t j n)[m]? = some (((cw z l m : Nat) : Int) + (if t.2.1 = z ∧ t.2.2.1 ≤ (m : Int) ∧ (m : Int) < t.2.2.1 + (j : Nat) then 1 else 0)) := by
  unfold cwJ
  rw [List.getElem?_map, List.getElem?_range hm]; rfl
theorem cwJ_set {z : Str} {l : List Tm} {t : Tm} {j n m : Nat} (hm : m < n) (em : (m : Int) = t.2.2.1 + (j : Nat)) : (cwJ z l t j n).set m (((cw z l m : Nat) : Int) + (if t.2.1 = z ∧ t.2.2.1 ≤ (m : Int) ∧ (m : Int) < t.2.2.1 + (j : Nat) then 1 else 0) + (if decide (t.2.1 = z) = true then 1 else 0)) = cwJ z l t (j + 1) n := by
  refine List.ext_getElem? fun p => ?_
  rcases Nat.lt_or_ge p n with hp | hp
  · rw [cwJ_at hp]
    by_cases e : m = p
    · subst e
      rw [List.getElem?_set_self (by rw [cwJ_len]; exact hp), if_neg (by omega)]
      by_cases hz : t.2.1 = z
      · rw [if_pos (decide_eq_true hz), if_pos ⟨hz, by omega, by omega⟩, Int.add_zero]
      · rw [if_neg (fun x => hz (of_decide_eq_true x)), if_neg (fun x => hz x.1), Int.add_zero]
    · rw [List.getElem?_set_ne e, cwJ_at hp]
      congr 2
      by_cases hz : t.2.1 = z ∧ t.2.2.1 ≤ (p : Int) ∧ (p : Int) < t.2.2.1 + (j : Nat)
      · rw [if_pos hz, if_pos ⟨hz.1, hz.2.1, by have := hz.2.2; omega⟩]
      · rw [if_neg hz, if_neg (fun x => hz ⟨x.1, x.2.1, by have := x.2.2; omega⟩)]
  · rw [List.getElem?_eq_none (by rw [List.length_set, cwJ_len]; exact hp), List.getElem?_eq_none (by rw [cwJ_len]; exact hp)]
theorem cwL_nil (z : Str) (n : Nat) : (List.replicate n [V.int 0]).flatten = (cwL z [] n).map V.int := by
  refine List.ext_getElem? fun p => ?_
  have l1 : (List.replicate n [V.int 0]).flatten = List.replicate n (V.int 0) := by
    induction n with
    | zero => rfl
    | succ n ih => rw [List.replicate_succ, List.flatten_cons, ih]; rfl
  rw [l1]
  unfold cwL
  rw [List.map_map, List.getElem?_map]
  rcases Nat.lt_or_ge p n with h | h
  · rw [List.getElem?_range h, List.getElem?_replicate, if_pos h]; rfl
  · rw [List.getElem?_replicate, if_neg (by omega), List.getElem?_eq_none (l := List.range n) (by rw [List.length_range]; exact h)]; rfl
set_option maxHeartbeats 1000000 in
theorem ok_lwants {f : Addr} {fd : FuncData} {k : Nat} (F : Fun K "_law_wants" "_law_wants" s__law_wants f fd) (T : Txt mg) : FnOk P w K mg base CX0 (k + 1) f fd ["_law_teams", "_law_colour", "_law_hours"] (spWants K) := by
  refine F.ok sc__law_wants (fun vs H Q E h => ?_) (fun cdv A outer s H vs Q E hr h => ?_)
  · obtain ⟨A, xs, tms, z, n, rfl, _⟩ := h
    rfl
  · obtain ⟨B, xs, tms, z, n, rfl, hs, da, lt, tok, n60, q⟩ := h
    have nd := sc__law_wants.nd
    /- 0 _law_teams, 1 _law_colour, 2 _law_hours, 3 _law_found, 4 _law_team_here, 5 _law_own, 6 _law_first, 7 _law_last, 8 _law_hour -/
    refine ⟨_, (pss_cons (ps_set (i := 3) nd rfl (.inl rfl) (pe_op op_rep (pe_lst (pa_cons pe_int pa_nil)) (pv 2)))
      (pss_cons (ps_for PassesOwn.never rfl (ki_list (K := K) (pv 0)) (kg_tup (K := K) (n := 4) (pgs_cons (pg_name (i := 4) nd rfl (.inl rfl)) (pgs_cons (pg_name (i := 5) nd rfl (.inl rfl)) (pgs_cons (pg_name (i := 6) nd rfl (.inl rfl)) (pgs_cons (pg_name (i := 7) nd rfl (.inl rfl)) pgs_nil)))))
          (pss_one (ps_for PassesOwn.never rfl (pi_range2 (by rfl) T.range (pa_cons (pv 6) (pa_cons (pe_callB (call_min2 rfl) (by rfl) T.min (by decide +kernel) (pa_cons (pv 7) (pa_cons (pv 2) pa_nil))) pa_nil))) (pg_name (i := 8) nd rfl (.inl rfl))
              (pss_one (ps_asg (pe_op op_add (pe_ix (kx_list (K := K)) (pv 3) (pv 8) (fun _ _ => rfl)) (pe_callTy call_int1 (by rfl) T.int (by decide +kernel) (pa_cons (pe_cmpR op_eq (pv 5) (pv 1) (nomark _)) pa_nil))) (pg_sub (pv 3) (pv 8) set_list))))))
      (pss_one (ps_ret (pv 3))))), ?_⟩
    have lxs : xs.length = tms.length := dpAll_map_len da
    refine ⟨(by show 1 ≤ sizeLine; decide), fun p0 np0 => ⟨_, rfl, p0, (n : Int), _, rfl, rfl, upd_same, (by omega), (by omega), (by show 1 * (n : Int).toNat ≤ sizeLine; rw [sizeLine_eq]; omega), fun L nL => ?_⟩⟩
    rw [Int.toNat_natCast, cwL_nil z n]
    have s1 : Same H (upd (upd H p0 (.lst [.int 0])) L (.lst ((cwL z [] n).map V.int))) := (same_upd np0).trans (same_upd nL)
    have nL0 : H L = none := (same_upd np0).free nL
    have hL : upd (upd H p0 (.lst [.int 0])) L (.lst ((cwL z [] n).map V.int)) L = some (.lst ((cwL z [] n).map V.int)) := upd_same
    generalize upd (upd H p0 (.lst [.int 0])) L (.lst ((cwL z [] n).map V.int)) = H1 at s1 hL ⊢
    refine ⟨_, rfl, B, rfl, ⟨_, s1.seq hs⟩, ?_⟩
    refine for_it (walk_list (xs := xs)) (fun i σ Hx => ∃ (v4 v5 v6 v7 v8 : Option V), σ = [some (.ref B), some (.str z), some (.int (n : Nat)), some (.ref L), v4, v5, v6, v7, v8] ∧ Same H Hx ∧ Hx L = some (.lst ((cwL z (tms.take i) n).map V.int))) ⟨_, _, _, _, _, rfl, s1, hL⟩ (fun i σ Hx _ h => by obtain ⟨_, _, _, _, _, _, h, _⟩ := h; exact h.seq hs) ?_ ?_
    · rintro i x σ H2 H3 hi ⟨v4, v5, v6, v7, v8, rfl, s2, hL⟩ ⟨rfl, gx⟩
      obtain ⟨t, gt, dt⟩ := dpAll_map_at da gx
      obtain ⟨a, rfl, ha⟩ := tm_dp dt
      have tk := tok t (List.mem_of_getElem? gt)
      obtain ⟨t1, t2⟩ := tk.a
      obtain ⟨t3, t4⟩ := tk.b
      refine ⟨a, _, rfl, same_tup s2 ha, rfl, _, _, rfl, _, _, rfl, _, _, rfl, _, _, rfl, rfl, ?_⟩
      refine ⟨_, rfl, _, rfl, _, rfl, _, _, rfl, _, _, rfl, ⟨(by omega), (by omega), (by split <;> omega), (by split <;> omega)⟩, ?_⟩
      obtain ⟨nn, enn⟩ : ∃ nn, nn = ((if (n : Int) < t.2.2.2 then (n : Int) else t.2.2.2) - t.2.2.1).toNat := ⟨_, rfl⟩
      have nn1 : ∀ j, j < nn → t.2.2.1 + (j : Int) < (n : Int) := fun j hj => by
        rw [enn] at hj
        split at hj <;> omega
      have hend := cwJ_end (z := z) (n := n) gt t1
      rw [← enn] at hend ⊢
      refine for_it walk_range (fun j σ Hx => ∃ v8, σ = [some (.ref B), some (.str z), some (.int (n : Nat)), some (.ref L), some (.str t.1), some (.str t.2.1), some (.int t.2.2.1), some (.int t.2.2.2), v8] ∧ Same H Hx ∧ Hx L = some (.lst ((cwJ z (tms.take i) t j n).map V.int))) ⟨_, rfl, s2, by rw [cwJ_zero]; exact hL⟩ (fun _ _ _ _ _ => trivial) ?_ ?_
      · clear hL s2
        rintro j x σ H4 H5 hj ⟨v8, rfl, s2, hL⟩ ⟨rfl, rfl⟩
        have hjn := nn1 j hj
        obtain ⟨m, em⟩ : ∃ m : Nat, (m : Int) = t.2.2.1 + (j : Int) := ⟨(t.2.2.1 + (j : Int)).toNat, by omega⟩
        have hm : m < n := by omega
        have ha := cwJ_at (z := z) (l := tms.take i) (t := t) (j := j) hm
        have lm : m < (cwJ z (tms.take i) t j n).length := by rw [cwJ_len]; exact hm
        refine ⟨_, rfl, _, rfl, L, _, _, _, rfl, rfl, SqL.of hL, (by rw [← em]; exact atI_nat (by rw [List.getElem?_map, ha]; rfl)), ?_⟩
        refine ⟨_, rfl, _, rfl, rfl, .inr ⟨_, rfl, _, _, rfl, rfl, ?_⟩⟩
        rw [decS]
        refine ⟨_, rfl, _, rfl, L, _, _, m, rfl, rfl, hL, (by rw [← em, List.length_map]; exact Evl.ixN_nat lm), ?_⟩
        refine ⟨_, rfl, same_put s2 nL0, ?_⟩
        rw [upd_same, ← cwJ_set hm em, List.map_set]
      · rintro σ H4 ⟨v8, rfl, s2, hL⟩
        rw [hend] at hL
        exact ⟨_, _, _, _, _, rfl, s2, hL⟩
    · rintro σ H2 ⟨v4, v5, v6, v7, v8, rfl, s2, hL⟩
      rw [lxs, List.take_of_length_le (Nat.le_refl _)] at hL
      exact ⟨_, rfl, q H2 L s2 nL0 hL⟩

end
end Pot

namespace Pot
open PySem PySem.Spec PyProof.Rows L2
abbrev Off := Int × Int × Int
def offD (o : Off) : PyData := .tuple [.int o.1, .int o.2.1, .int o.2.2]
/-! ### the mathematics of served -/
def sg (f : Nat → Int) : Nat → Int
  | 0 => 0
  | n + 1 => sg f n + f n
theorem sg_congr {f g : Nat → Int} : ∀ {n : Nat}, (∀ k, k < n → f k = g k) → sg f n = sg g n
  | 0, _ => rfl
  | n + 1, h => by
    show sg f n + f n = sg g n + g n
    rw [sg_congr (n := n) fun k hk => h k (by omega), h n (by omega)]
theorem sg_one {f g : Nat → Int} {i : Nat} : ∀ {n : Nat}, i < n → (∀ k, k < n → k ≠ i → f k = g k) → sg f n = sg g n + (f i - g i)
  | 0, h, _ => absurd h (by omega)
  | n + 1, hi, h => by
    show sg f n + f n = sg g n + g n + _
    by_cases e : i = n
    · subst e
      rw [sg_congr (n := i) fun k hk => h k (by omega) (by omega)]
      omega
    · rw [sg_one (n := n) (by omega) fun k hk => h k (by omega), h n (by omega) (fun z => e z.symm)]
      omega
theorem sg_le {f g : Nat → Int} : ∀ {n : Nat}, (∀ k, k < n → f k ≤ g k) → sg f n ≤ sg g n
  | 0, _ => Int.le_refl 0
  | n + 1, h => by
    have := sg_le (n := n) fun k hk => h k (by omega)
    have := h n (by omega)
    show sg f n + f n ≤ sg g n + g n
    omega
theorem sg_zero {f : Nat → Int} {n : Nat} (h : ∀ k, k < n → f k = 0) : sg f n = 0 := by
  rw [sg_congr (g := fun _ => 0) h]
  clear h
  induction n with
  | zero => rfl
  | succ n ih => show sg _ n + 0 = 0; rw [ih]; rfl
theorem sg_add (f g : Nat → Int) : ∀ n, sg (fun k => f k + g k) n = sg f n + sg g n
  | 0 => rfl
  | n + 1 => by
    show sg _ n + (f n + g n) = sg f n + f n + (sg g n + g n)
    rw [sg_add f g n]; omega
theorem sg_swap (f : Nat → Nat → Int) (m : Nat) : ∀ n, sg (fun a => sg (fun b => f a b) m) n = sg (fun b => sg (fun a => f a b) n) m
  | 0 => by rw [sg_zero (f := fun b => sg (fun a => f a b) 0) fun _ _ => rfl]; rfl
  | n + 1 => by
    show sg _ n + sg (fun b => f n b) m = sg (fun b => sg (fun a => f a b) n + f n b) m
    rw [sg_swap f m n, sg_add]
/-- a sum over a list of places, as one over all -/
theorem sum_sg {f : Nat → Int} : ∀ {S : List Nat} {L : Nat}, S.Nodup → (∀ h ∈ S, h < L) → (S.map f).sum = sg (fun h => if h ∈ S then f h else 0) L
  | [], L, _, _ => by rw [sg_zero fun k _ => by simp]; rfl
  | a :: S, L, nd, lt => by
    obtain ⟨na, ns⟩ := List.nodup_cons.mp nd
    rw [List.map_cons, List.sum_cons, sum_sg ns fun h hh => lt h (List.mem_cons_of_mem _ hh)]
    rw [sg_one (f := fun h => if h ∈ a :: S then f h else 0) (g := fun h => if h ∈ S then f h else 0) (lt a List.mem_cons_self) fun k _ hk => by simp [hk]]
    simp only [List.mem_cons_self, if_true, if_neg na]
    omega
theorem len_sg {S : List Nat} {L : Nat} (nd : S.Nodup) (lt : ∀ h ∈ S, h < L) : (S.length : Int) = sg (fun h => if h ∈ S then 1 else 0) L := by
  rw [← sum_sg (f := fun _ => 1) nd lt]
  clear nd lt
  induction S with
  | nil => rfl
  | cons a S ih => rw [List.map_cons, List.sum_cons, ← ih, List.length_cons]; omega
def o0 : Off := (0, 0, 0)
def inW (os : List Off) (n h : Nat) : Prop := (os.getD n o0).1 ≤ (h : Int) ∧ (h : Int) < (os.getD n o0).2.1
instance (os : List Off) (n h : Nat) : Decidable (inW os n h) := by unfold inW; infer_instance
/-- the offers that could give at an hour and don't -/
def unF (os : List Off) (row : List Nat) (h : Nat) : List Nat := (List.range os.length).filter fun n => decide (inW os n h ∧ n ∉ row)
/-- the hours at which an offer gives -/
def hrF (rows : List (List Nat)) (n : Nat) : List Nat := (List.range rows.length).filter fun h => decide (n ∈ rows.getD h [])
structure Sv where
  ask : List (Nat × Nat)
  up : List (Nat × Option Nat)
  wt : List Nat
def upStep (n : Nat) (s : Sv) (h : Nat) : Sv := if h ∈ s.up.map (·.1) then s else ⟨s.ask, s.up ++ [(h, some n)], s.wt ++ [h]⟩
def scanF (rows : List (List Nat)) (left : List Int) (h : Nat) : List Nat → Sv → Sv × Option Nat
  | [], s => (s, none)
  | n :: l, s => if n ∈ s.ask.map (·.1) then scanF rows left h l s else
    if 0 < left.getD n 0 then (⟨s.ask ++ [(n, h)], s.up, s.wt⟩, some n) else scanF rows left h l ((hrF rows n).foldl (upStep n) ⟨s.ask ++ [(n, h)], s.up, s.wt⟩)
def goF (os : List Off) (rows : List (List Nat)) (left : List Int) : Nat → Sv → Sv × Option Nat
  | 0, s => (s, none)
  | k + 1, s => match s.wt.getLast? with
    | none => (s, none)
    | some h => match scanF rows left h (unF os (rows.getD h []) h) ⟨s.ask, s.up, s.wt.dropLast⟩ with
      | (s', some n) => (s', some n)
      | (s', none) => goF os rows left k s'
def lkA {α : Type} (l : List (Nat × α)) (k : Nat) : Option α := (l.find? fun p => decide (p.1 = k)).map (·.2)
def handF (ask : List (Nat × Nat)) (up : List (Nat × Option Nat)) : Nat → List (List Nat) → Nat → List (List Nat)
  | 0, rows, _ => rows
  | k + 1, rows, n => match lkA ask n with
    | none => rows
    | some h => match lkA up h with
      | some (some m) => handF ask up k ((rows.set h (rows.getD h [] ++ [n])).set h ((rows.getD h [] ++ [n]).erase m)) m
      | _ => rows.set h (rows.getD h [] ++ [n])
theorem lkA_mem {α : Type} {l : List (Nat × α)} {k : Nat} {v : α} (h : lkA l k = some v) : (k, v) ∈ l := by
  unfold lkA at h
  obtain ⟨p, hp, rfl⟩ := Option.map_eq_some_iff.mp h
  have := List.find?_some hp
  simp only [decide_eq_true_eq] at this
  rw [← this]
  exact List.mem_of_find?_eq_some hp
theorem lkA_of {α : Type} : ∀ {l : List (Nat × α)} {k : Nat} {v : α}, (l.map (·.1)).Nodup → (k, v) ∈ l → lkA l k = some v
  | [], _, _, _, h => (List.not_mem_nil h).elim
  | p :: l, k, v, nd, h => by
    obtain ⟨na, ns⟩ := List.nodup_cons.mp nd
    unfold lkA
    rcases List.mem_cons.mp h with e | h
    · rw [← e, List.find?_cons_of_pos (by simp)]; rfl
    · have ne : p.1 ≠ k := fun z => na (by show p.1 ∈ _; rw [z]; exact List.mem_map.mpr ⟨(k, v), h, rfl⟩)
      rw [List.find?_cons_of_neg (by simpa using ne)]
      exact lkA_of ns h
/-- what stands while it is searched -/
structure SvI (os : List Off) (rows : List (List Nat)) (r : Nat) (s : Sv) : Prop where
  und : (s.up.map (·.1)).Nodup
  and : (s.ask.map (·.1)).Nodup
  root : ∃ t, s.up = (r, none) :: t ∧ ∀ p ∈ t, p.2 ≠ none
  ult : ∀ p ∈ s.up, p.1 < rows.length
  up : ∀ h m : Nat, (h, some m) ∈ s.up → m ∈ rows.getD h [] ∧ m ∈ s.ask.map (·.1)
  ask : ∀ n h : Nat, (n, h) ∈ s.ask → n < os.length ∧ inW os n h ∧ n ∉ rows.getD h [] ∧ h ∈ s.up.map (·.1)
  old : ∀ n h j h' : Nat, (n, h) ∈ s.ask → s.up[j]? = some (h', some n) → ∃ i, i < j ∧ ∃ v, s.up[i]? = some (h, v)
  wt : ∀ h : Nat, h ∈ s.wt → h ∈ s.up.map (·.1)
theorem SvI.start {os : List Off} {rows : List (List Nat)} {r : Nat} (hr : r < rows.length) : SvI os rows r ⟨[], [(r, none)], [r]⟩ := by
  refine ⟨by simp, by simp, ⟨[], rfl, fun p h => (List.not_mem_nil h).elim⟩, fun p hp => ?_, fun h m hm => ?_, fun n h hm => (List.not_mem_nil hm).elim, fun n h j h' hm => (List.not_mem_nil hm).elim, fun h hh => by simpa using hh⟩
  · rw [List.mem_singleton.mp hp]; exact hr
  · have := List.mem_singleton.mp hm
    cases this
theorem SvI.mem {os : List Off} {rows : List (List Nat)} {r h : Nat} {s : Sv} (I : SvI os rows r s) (hh : h ∈ s.up.map (·.1)) : ∃ (i : Nat) (v : Option Nat), s.up[i]? = some (h, v) := by
  obtain ⟨⟨a, v⟩, hp, rfl⟩ := List.mem_map.mp hh
  obtain ⟨i, hi, e⟩ := List.mem_iff_getElem.mp hp
  exact ⟨i, v, by rw [List.getElem?_eq_getElem hi, e]⟩
theorem SvI.add {os : List Off} {rows : List (List Nat)} {r n h : Nat} {s : Sv} (I : SvI os rows r s) (hn : n ∉ s.ask.map (·.1)) (h1 : n < os.length) (h2 : inW os n h) (h3 : n ∉ rows.getD h []) (h4 : h ∈ s.up.map (·.1)) : SvI os rows r ⟨s.ask ++ [(n, h)], s.up, s.wt⟩ := by
  refine ⟨I.und, ?_, I.root, I.ult, fun a m hm => ?_, fun a b hm => ?_, fun a b j h' hm hj => ?_, I.wt⟩
  · show ((s.ask ++ [(n, h)]).map (·.1)).Nodup
    rw [List.map_append]
    exact List.nodup_append.mpr ⟨I.and, by simp, fun x hx y hy e => hn (by have e : x = n := e.trans (List.mem_singleton.mp hy); rw [← e]; exact hx)⟩
  · obtain ⟨q1, q2⟩ := I.up a m hm
    exact ⟨q1, by show m ∈ (s.ask ++ [(n, h)]).map (·.1); rw [List.map_append]; exact List.mem_append_left _ q2⟩
  · rcases List.mem_append.mp hm with z | z
    · exact I.ask a b z
    · cases List.mem_singleton.mp z
      exact ⟨h1, h2, h3, h4⟩
  · rcases List.mem_append.mp hm with z | z
    · exact I.old a b j h' z hj
    · cases List.mem_singleton.mp z
      exact absurd (I.up h' n (List.mem_of_getElem? hj)).2 hn
theorem SvI.more {os : List Off} {rows : List (List Nat)} {r n h h' : Nat} {s : Sv} (I : SvI os rows r s) (hn : (n, h) ∈ s.ask) (h1 : h' < rows.length) (h2 : n ∈ rows.getD h' []) : SvI os rows r (upStep n s h') := by
  unfold upStep
  by_cases c : h' ∈ s.up.map (·.1)
  · rw [if_pos c]; exact I
  rw [if_neg c]
  obtain ⟨t, et, ht⟩ := I.root
  refine ⟨?_, I.and, ⟨t ++ [(h', some n)], by show s.up ++ _ = _; rw [et]; rfl, fun p hp => ?_⟩, fun p hp => ?_, fun a m hm => ?_, fun a b hm => ?_, fun a b j x hm hj => ?_, fun a ha => ?_⟩
  · show ((s.up ++ [(h', some n)]).map (·.1)).Nodup
    rw [List.map_append]
    exact List.nodup_append.mpr ⟨I.und, by simp, fun x hx y hy e => c (by have e : x = h' := e.trans (List.mem_singleton.mp hy); rw [← e]; exact hx)⟩
  · rcases List.mem_append.mp hp with z | z
    · exact ht p z
    · rw [List.mem_singleton.mp z]; exact fun q => by cases q
  · rcases List.mem_append.mp hp with z | z
    · exact I.ult p z
    · rw [List.mem_singleton.mp z]; exact h1
  · rcases List.mem_append.mp hm with z | z
    · exact I.up a m z
    · cases List.mem_singleton.mp z
      exact ⟨h2, List.mem_map.mpr ⟨_, hn, rfl⟩⟩
  · obtain ⟨q1, q2, q3, q4⟩ := I.ask a b hm
    exact ⟨q1, q2, q3, by show b ∈ (s.up ++ [(h', some n)]).map (·.1); rw [List.map_append]; exact List.mem_append_left _ q4⟩
  · have hj : (s.up ++ [(h', some n)])[j]? = some (x, some a) := hj
    have keep : ∀ {i : Nat} {v}, s.up[i]? = some v → (s.up ++ [(h', some n)])[i]? = some v := fun {i v} e => by
      rw [List.getElem?_append_left (List.getElem?_eq_some_iff.mp e).1]; exact e
    by_cases lt : j < s.up.length
    · rw [List.getElem?_append_left lt] at hj
      obtain ⟨i, hi, v, e⟩ := I.old a b j x hm hj
      exact ⟨i, hi, v, keep e⟩
    · have ej : j = s.up.length := by
        have := (List.getElem?_eq_some_iff.mp hj).1
        rw [List.length_append] at this
        have : j < s.up.length + 1 := this
        omega
      obtain ⟨i, v, e⟩ := I.mem (I.ask a b hm).2.2.2
      exact ⟨i, by have := (List.getElem?_eq_some_iff.mp e).1; omega, v, keep e⟩
  · show a ∈ (s.up ++ [(h', some n)]).map (·.1)
    rw [List.map_append]
    rcases List.mem_append.mp ha with z | z
    · exact List.mem_append_left _ (I.wt a z)
    · exact List.mem_append_right _ (by rw [List.mem_singleton.mp z]; simp)
theorem mem_hr {rows : List (List Nat)} {n h : Nat} : h ∈ hrF rows n ↔ h < rows.length ∧ n ∈ rows.getD h [] := by
  unfold hrF
  rw [List.mem_filter, List.mem_range, decide_eq_true_eq]
theorem mem_un {os : List Off} {row : List Nat} {n h : Nat} : n ∈ unF os row h ↔ n < os.length ∧ inW os n h ∧ n ∉ row := by
  unfold unF
  rw [List.mem_filter, List.mem_range, decide_eq_true_eq]
/-- some more hours give an offer up -/
theorem ups {os : List Off} {rows : List (List Nat)} {r n h : Nat} : ∀ {l : List Nat} {s : Sv}, SvI os rows r s → (n, h) ∈ s.ask → (∀ x ∈ l, x < rows.length ∧ n ∈ rows.getD x []) →
    SvI os rows r (l.foldl (upStep n) s) ∧ (l.foldl (upStep n) s).ask = s.ask ∧ (∀ x, x ∈ s.up.map (·.1) ∨ x ∈ l → x ∈ (l.foldl (upStep n) s).up.map (·.1)) ∧
    (∀ x ∈ (l.foldl (upStep n) s).up.map (·.1), x ∈ s.up.map (·.1) ∨ x ∈ (l.foldl (upStep n) s).wt) ∧ (∀ x ∈ s.wt, x ∈ (l.foldl (upStep n) s).wt) ∧ 
    s.up.length ≤ (l.foldl (upStep n) s).up.length ∧ (l.foldl (upStep n) s).wt.length + s.up.length = s.wt.length + (l.foldl (upStep n) s).up.length
  | [], s, I, _, _ => ⟨I, rfl, fun x h => h.elim id fun h => (List.not_mem_nil h).elim, fun x h => .inl h, fun x h => h, Nat.le_refl _, by show s.wt.length + s.up.length = _; rfl⟩
  | a :: l, s, I, hn, hl => by
    obtain ⟨a1, a2⟩ := hl a List.mem_cons_self
    have J := I.more hn a1 a2
    have eA : (upStep n s a).ask = s.ask := by unfold upStep; split <;> rfl
    obtain ⟨k1, k2, k3, k4, k5, k6, k7⟩ := ups J (by rw [eA]; exact hn) fun x hx => hl x (List.mem_cons_of_mem _ hx)
    have sub : ∀ x ∈ s.up.map (·.1), x ∈ (upStep n s a).up.map (·.1) := fun x hx => by
      unfold upStep
      split
      · exact hx
      · show x ∈ (s.up ++ _).map (·.1)
        rw [List.map_append]; exact List.mem_append_left _ hx
    have wsub : ∀ x ∈ s.wt, x ∈ (upStep n s a).wt := fun x hx => by
      unfold upStep
      split
      · exact hx
      · exact List.mem_append_left _ hx
    have own : a ∈ (upStep n s a).up.map (·.1) := by
      unfold upStep
      split
      · assumption
      · show a ∈ (s.up ++ _).map (·.1)
        rw [List.map_append]; exact List.mem_append_right _ (by simp)
    have back : ∀ x ∈ (upStep n s a).up.map (·.1), x ∈ s.up.map (·.1) ∨ x ∈ (upStep n s a).wt := fun x hx => by
      unfold upStep at hx ⊢
      split at hx
      · exact .inl hx
      · rename_i c
        rw [if_neg c]
        have hx : x ∈ (s.up ++ [(a, some n)]).map (·.1) := hx
        rw [List.map_append] at hx
        exact (List.mem_append.mp hx).imp id fun z => List.mem_append_right _ (by rw [List.mem_singleton.mp z]; simp)
    have lens : s.up.length ≤ (upStep n s a).up.length ∧ (upStep n s a).wt.length + s.up.length = s.wt.length + (upStep n s a).up.length := by
      unfold upStep
      split
      · exact ⟨Nat.le_refl _, rfl⟩
      · constructor
        · show _ ≤ (s.up ++ _).length; rw [List.length_append]; omega
        · show (s.wt ++ _).length + _ = _ + (s.up ++ _).length; rw [List.length_append, List.length_append]; show _ + 1 + _ = _ + (_ + 1); omega
    obtain ⟨l1, l2⟩ := lens
    refine ⟨k1, k2.trans eA, fun x h => ?_, fun x hx => ?_, fun x hx => k5 x (wsub x hx), Nat.le_trans l1 k6, by show (l.foldl (upStep n) (upStep n s a)).wt.length + _ = _ + (l.foldl (upStep n) (upStep n s a)).up.length; omega⟩
    · rcases h with h | h
      · exact k3 x (.inl (sub x h))
      · rcases List.mem_cons.mp h with e | h
        · rw [e]; exact k3 a (.inl own)
        · exact k3 x (.inr h)
    · rcases k4 x hx with h | h
      · exact (back x h).imp id fun z => k5 x z
      · exact .inr h
/-- all offers asked for have nothing left, and each hour that has them gives them up -/
def Cls (rows : List (List Nat)) (left : List Int) (s : Sv) : Prop := ∀ n ∈ s.ask.map (·.1), left.getD n 0 ≤ 0 ∧ ∀ h ∈ hrF rows n, h ∈ s.up.map (·.1)
theorem scan_ok {os : List Off} {rows : List (List Nat)} {left : List Int} {r h : Nat} : ∀ {l : List Nat} {s : Sv}, SvI os rows r s → Cls rows left s → h ∈ s.up.map (·.1) → (∀ n ∈ l, n ∈ unF os (rows.getD h []) h) →
    SvI os rows r (scanF rows left h l s).1 ∧ (∀ n, (scanF rows left h l s).2 = some n → n ∈ l ∧ 0 < left.getD n 0 ∧ (n, h) ∈ (scanF rows left h l s).1.ask) ∧ 
    (∀ x ∈ s.up.map (·.1), x ∈ (scanF rows left h l s).1.up.map (·.1)) ∧ (∀ x ∈ s.ask.map (·.1), x ∈ (scanF rows left h l s).1.ask.map (·.1)) ∧ (∀ x ∈ (scanF rows left h l s).1.up.map (·.1), x ∈ s.up.map (·.1) ∨ x ∈ (scanF rows left h l s).1.wt) ∧ (∀ x ∈ s.wt, x ∈ (scanF rows left h l s).1.wt) ∧
    s.up.length ≤ (scanF rows left h l s).1.up.length ∧ (scanF rows left h l s).1.wt.length + s.up.length = s.wt.length + (scanF rows left h l s).1.up.length ∧
    ((scanF rows left h l s).2 = none → Cls rows left (scanF rows left h l s).1 ∧ ∀ n ∈ l, n ∈ (scanF rows left h l s).1.ask.map (·.1))
  | [], s, I, C, _, _ => ⟨I, (fun n e => by cases e), fun x h => h, fun x h => h, fun x h => .inl h, fun x h => h, Nat.le_refl _, rfl, fun _ => ⟨C, fun n h => (List.not_mem_nil h).elim⟩⟩
  | n :: l, s, I, C, hh, hl => by
    have tl : ∀ x ∈ l, x ∈ unF os (rows.getD h []) h := fun x hx => hl x (List.mem_cons_of_mem _ hx)
    by_cases c : n ∈ s.ask.map (·.1)
    · have e : scanF rows left h (n :: l) s = scanF rows left h l s := by rw [scanF, if_pos c]
      rw [e]
      obtain ⟨k1, k2, k3, k4, k5, k6, k7, k8, k9⟩ := scan_ok I C hh tl
      refine ⟨k1, fun x hx => ?_, k3, k4, k5, k6, k7, k8, fun z => ⟨(k9 z).1, fun x hx => ?_⟩⟩
      · obtain ⟨q1, q2⟩ := k2 x hx
        exact ⟨List.mem_cons_of_mem _ q1, q2⟩
      · rcases List.mem_cons.mp hx with e | hx
        · rw [e]; exact k4 n c
        · exact (k9 z).2 x hx
    obtain ⟨u1, u2, u3⟩ := mem_un.mp (hl n List.mem_cons_self)
    have J := I.add c u1 u2 u3 hh
    by_cases c2 : 0 < left.getD n 0
    · have e : scanF rows left h (n :: l) s = (⟨s.ask ++ [(n, h)], s.up, s.wt⟩, some n) := by rw [scanF, if_neg c, if_pos c2]
      rw [e]
      refine ⟨J, fun x hx => ?_, fun x h => h, fun x hx => ?_, fun x h => .inl h, fun x h => h, Nat.le_refl _, rfl, fun z => by cases z⟩
      · cases hx
        exact ⟨List.mem_cons_self, c2, List.mem_append_right _ (by simp)⟩
      · show x ∈ (s.ask ++ _).map (·.1)
        rw [List.map_append]; exact List.mem_append_left _ hx
    · have e : scanF rows left h (n :: l) s = scanF rows left h l ((hrF rows n).foldl (upStep n) ⟨s.ask ++ [(n, h)], s.up, s.wt⟩) := by rw [scanF, if_neg c, if_neg c2]
      rw [e]
      obtain ⟨p1, p2, p3, p4, p5, p6, p7⟩ := ups (l := hrF rows n) J (show (n, h) ∈ s.ask ++ [(n, h)] from List.mem_append_right _ (by simp)) fun x hx => mem_hr.mp hx
      generalize (hrF rows n).foldl (upStep n) ⟨s.ask ++ [(n, h)], s.up, s.wt⟩ = s2 at p1 p2 p3 p4 p5 p6 p7 ⊢
      have C2 : Cls rows left s2 := fun x hx => by
        rw [p2] at hx
        have hx : x ∈ (s.ask ++ [(n, h)]).map (·.1) := hx
        rw [List.map_append] at hx
        rcases List.mem_append.mp hx with z | z
        · exact ⟨(C x z).1, fun y hy => p3 y (.inl ((C x z).2 y hy))⟩
        · have z : x = n := List.mem_singleton.mp z
          rw [z]
          exact ⟨by omega, fun y hy => p3 y (.inr hy)⟩
      obtain ⟨k1, k2, k3, k4, k5, k6, k7, k8, k9⟩ := scan_ok p1 C2 (p3 h (.inl hh)) tl
      have a2 : ∀ x ∈ s.ask.map (·.1), x ∈ s2.ask.map (·.1) := fun x hx => by
        rw [p2]
        show x ∈ (s.ask ++ _).map (·.1)
        rw [List.map_append]; exact List.mem_append_left _ hx
      refine ⟨k1, fun x hx => ?_, fun x hx => k3 x (p3 x (.inl hx)), fun x hx => k4 x (a2 x hx), fun x hx => ?_, fun x hx => k6 x (p5 x hx), Nat.le_trans p6 k7, by have p7 : s2.wt.length + s.up.length = s.wt.length + s2.up.length := p7; omega, fun z => ⟨(k9 z).1, fun x hx => ?_⟩⟩
      · obtain ⟨q1, q2⟩ := k2 x hx
        exact ⟨List.mem_cons_of_mem _ q1, q2⟩
      · rcases k5 x hx with z | z
        · exact (p4 x z).imp id fun z => k6 x z
        · exact .inr z
      · rcases List.mem_cons.mp hx with e | hx
        · rw [e]
          refine k4 n ?_
          rw [p2]
          show n ∈ (s.ask ++ [(n, h)]).map (·.1)
          rw [List.map_append]; exact List.mem_append_right _ (by simp)
        · exact (k9 z).2 x hx
/-- each hour that gives one up has been looked at, or waits -/
def Opn (os : List Off) (rows : List (List Nat)) (s : Sv) : Prop := ∀ h ∈ s.up.map (·.1), h ∈ s.wt ∨ ∀ n ∈ unF os (rows.getD h []) h, n ∈ s.ask.map (·.1)
theorem go_ok {os : List Off} {rows : List (List Nat)} {left : List Int} {r : Nat} : ∀ {k : Nat} {s : Sv}, SvI os rows r s → Cls rows left s → Opn os rows s → 2 * (rows.length - s.up.length) + s.wt.length ≤ k →
    SvI os rows r (goF os rows left k s).1 ∧ (∀ n, (goF os rows left k s).2 = some n → n < os.length ∧ 0 < left.getD n 0 ∧ ∃ h, (n, h) ∈ (goF os rows left k s).1.ask) ∧
    ((goF os rows left k s).2 = none → Cls rows left (goF os rows left k s).1 ∧ ∀ h ∈ (goF os rows left k s).1.up.map (·.1), ∀ n ∈ unF os (rows.getD h []) h, n ∈ (goF os rows left k s).1.ask.map (·.1))
  | 0, s, I, C, O, hk => ⟨I, (fun n e => by cases e), fun _ => ⟨C, fun h hh => (O h hh).resolve_left fun z => by
      have : s.wt = [] := List.length_eq_zero_iff.mp (by omega)
      rw [show (goF os rows left 0 s).1 = s from rfl] at *
      rw [this] at z
      exact List.not_mem_nil z⟩⟩
  | k + 1, s, I, C, O, hk => by
    cases e : s.wt.getLast? with
    | none =>
      have ew : s.wt = [] := List.getLast?_eq_none_iff.mp e
      have eg : goF os rows left (k + 1) s = (s, none) := by rw [goF, e]
      rw [eg]
      refine ⟨I, (fun n e => by cases e), fun _ => ⟨C, fun h hh => (O h hh).resolve_left fun z => ?_⟩⟩
      rw [ew] at z
      exact List.not_mem_nil z
    | some h =>
      have ne : s.wt ≠ [] := fun z => by rw [z] at e; cases e
      have ew : s.wt = s.wt.dropLast ++ [h] := by
        have := List.dropLast_concat_getLast ne
        rw [List.getLast?_eq_some_getLast ne] at e
        rw [← Option.some.inj e]; exact this.symm
      have hw : h ∈ s.wt := by rw [ew]; simp
      have hu := I.wt h hw
      have lw : s.wt.length = s.wt.dropLast.length + 1 := by
        have := congrArg List.length ew
        rw [List.length_append] at this
        exact this
      have J : SvI os rows r ⟨s.ask, s.up, s.wt.dropLast⟩ := ⟨I.und, I.and, I.root, I.ult, I.up, I.ask, I.old, fun a ha => I.wt a (by have q := List.mem_append_left [h] (show a ∈ s.wt.dropLast from ha); rw [← ew] at q; exact q)⟩
      obtain ⟨k1, k2, k3, k4, k5, k6, k7, k8, k9⟩ := scan_ok (left := left) (h := h) (l := unF os (rows.getD h []) h) J C hu fun n hn => hn
      cases e2 : scanF rows left h (unF os (rows.getD h []) h) ⟨s.ask, s.up, s.wt.dropLast⟩ with
      | mk s' o =>
        rw [e2] at k1 k2 k3 k4 k5 k6 k7 k8 k9
        cases o with
        | some n =>
          have eg : goF os rows left (k + 1) s = (s', some n) := by rw [goF, e]; dsimp only; rw [e2]
          rw [eg]
          refine ⟨k1, fun x hx => ?_, fun z => by cases z⟩
          cases hx
          obtain ⟨q1, q2, q3⟩ := k2 n rfl
          exact ⟨(mem_un.mp q1).1, q2, h, q3⟩
        | none =>
          have eg : goF os rows left (k + 1) s = goF os rows left k s' := by rw [goF, e]; dsimp only; rw [e2]
          rw [eg]
          obtain ⟨c1, c2⟩ := k9 rfl
          dsimp only at k1 k3 k4 k5 k6 k7 k8 c1 c2
          have ul : s'.up.length ≤ rows.length := by
            have h1 : (s'.up.map (·.1)).length ≤ (List.range rows.length).length := List.Nodup.length_le_of_subset k1.und fun x hx => by
              obtain ⟨p, hp, rfl⟩ := List.mem_map.mp hx
              exact List.mem_range.mpr (k1.ult p hp)
            rw [List.length_map, List.length_range] at h1
            exact h1
          refine go_ok k1 c1 (fun x hx => ?_) (by omega)
          rcases k5 x hx with z | z
          · rcases O x z with z2 | z2
            · rw [ew] at z2
              rcases List.mem_append.mp z2 with z3 | z3
              · exact .inl (k6 x z3)
              · rw [List.mem_singleton.mp z3]
                exact .inr c2
            · exact .inr fun n hn => k4 n (z2 n hn)
          · exact .inl z
/-! ### handing on -/
def RowsI (os : List Off) (rows : List (List Nat)) : Prop := ∀ h, (rows.getD h []).Nodup ∧ ∀ n ∈ rows.getD h [], n < os.length ∧ inW os n h
def usedF (rows : List (List Nat)) (x : Nat) : Int := sg (fun h => if x ∈ rows.getD h [] then 1 else 0) rows.length
theorem rset {rows : List (List Nat)} {h : Nat} (hh : h < rows.length) (a : List Nat) (k : Nat) : (rows.set h a).getD k [] = if k = h then a else rows.getD k [] := by
  rw [List.getD_eq_getElem?_getD, List.getD_eq_getElem?_getD, List.getElem?_set]
  by_cases e : h = k
  · subst e
    simp [hh]
  · rw [if_neg e, if_neg (fun z => e z.symm)]
theorem used_set {rows : List (List Nat)} {h : Nat} (hh : h < rows.length) (a : List Nat) (x : Nat) : usedF (rows.set h a) x = usedF rows x + ((if x ∈ a then 1 else 0) - (if x ∈ rows.getD h [] then 1 else 0)) := by
  unfold usedF
  rw [List.length_set, sg_one (i := h) (g := fun h => if x ∈ rows.getD h [] then 1 else 0) hh fun k _ hk => by rw [rset hh, if_neg hk]]
  rw [rset hh, if_pos rfl]
theorem hand_ok {os : List Off} {R0 : List (List Nat)} {r : Nat} {s : Sv} (I : SvI os R0 r s) : ∀ (i : Nat) (rows : List (List Nat)) (n h fuel : Nat) (v : Option Nat), s.up[i]? = some (h, v) → (n, h) ∈ s.ask → rows.length = R0.length →
    (∀ j a w, j ≤ i → s.up[j]? = some (a, w) → rows.getD a [] = R0.getD a []) → RowsI os rows → i < fuel →
    (handF s.ask s.up fuel rows n).length = R0.length ∧ RowsI os (handF s.ask s.up fuel rows n) ∧ (∀ x, ((handF s.ask s.up fuel rows n).getD x []).length = (rows.getD x []).length + if x = r then 1 else 0) ∧
    ∀ x, usedF (handF s.ask s.up fuel rows n) x = usedF rows x + if x = n then 1 else 0 := by
  intro i
  induction i using Nat.strongRecOn with
  | _ i ih =>
  intro rows n h fuel v ei hn hl same RI hf
  obtain ⟨k, rfl⟩ : ∃ k, fuel = k + 1 := ⟨fuel - 1, by omega⟩
  have e1 : lkA s.ask n = some h := lkA_of I.and hn
  have e2 : lkA s.up h = some v := lkA_of I.und (List.mem_of_getElem? ei)
  obtain ⟨n1, n2, n3, n4⟩ := I.ask n h hn
  have hh : h < rows.length := by rw [hl]; exact I.ult _ (List.mem_of_getElem? ei)
  have er := same i h v (Nat.le_refl _) ei
  have n3' : n ∉ rows.getD h [] := by rw [er]; exact n3
  obtain ⟨nd, win⟩ := RI h
  cases v with
  | none =>
    have eh : h = r := by
      obtain ⟨t, et, ht⟩ := I.root
      have m := List.mem_of_getElem? ei
      rw [et] at m
      rcases List.mem_cons.mp m with z | z
      · exact (Prod.mk.inj z).1
      · exact absurd rfl (ht _ z)
    have ef : handF s.ask s.up (k + 1) rows n = rows.set h (rows.getD h [] ++ [n]) := by
      rw [handF, e1]; dsimp only; rw [e2]
    rw [ef]
    refine ⟨by rw [List.length_set]; exact hl, fun x => ?_, fun x => ?_, fun x => ?_⟩
    · rw [rset hh]
      split
      · rename_i e
        refine ⟨List.nodup_append.mpr ⟨nd, by simp, fun a ha b hb e => n3' (by rw [List.mem_singleton.mp hb] at e; rw [← e]; exact ha)⟩, fun y hy => ?_⟩
        rw [e]
        rcases List.mem_append.mp hy with z | z
        · exact win y z
        · rw [List.mem_singleton.mp z]; exact ⟨n1, n2⟩
      · exact RI x
    · rw [rset hh, ← eh]
      by_cases e : x = h
      · rw [if_pos e, if_pos e, e, List.length_append]; rfl
      · rw [if_neg e, if_neg e]; rfl
    · rw [used_set hh]
      by_cases e : x = n
      · subst e
        rw [if_pos (List.mem_append_right _ (by simp)), if_neg n3', if_pos rfl]; omega
      · rw [if_neg e]
        by_cases c : x ∈ rows.getD h []
        · rw [if_pos (List.mem_append_left _ c), if_pos c]; omega
        · rw [if_neg (fun z => (List.mem_append.mp z).elim c fun z => e (List.mem_singleton.mp z)), if_neg c]; omega
  | some m =>
    obtain ⟨m1, m2⟩ := I.up h m (List.mem_of_getElem? ei)
    have m1' : m ∈ rows.getD h [] := by rw [er]; exact m1
    have nm : m ≠ n := fun z => n3' (by rw [← z]; exact m1')
    obtain ⟨⟨m', h1⟩, hm, e3⟩ := List.mem_map.mp m2
    have e3 : m' = m := e3
    subst e3
    obtain ⟨i1, li, v1, ei1⟩ := I.old m' h1 i h hm ei
    have ee : (rows.getD h [] ++ [n]).erase m' = (rows.getD h []).erase m' ++ [n] := List.erase_append_left _ m1'
    have ef : handF s.ask s.up (k + 1) rows n = handF s.ask s.up k (rows.set h ((rows.getD h []).erase m' ++ [n])) m' := by
      rw [handF, e1]; dsimp only; rw [e2]; dsimp only; rw [List.set_set, ee]
    rw [ef]
    have nde := nd.erase m'
    have sub : ∀ y ∈ (rows.getD h []).erase m', y ∈ rows.getD h [] := fun y hy => List.mem_of_mem_erase hy
    have RI1 : RowsI os (rows.set h ((rows.getD h []).erase m' ++ [n])) := fun x => by
      rw [rset hh]
      split
      · rename_i e
        refine ⟨List.nodup_append.mpr ⟨nde, by simp, fun a ha b hb e => n3' (by rw [List.mem_singleton.mp hb] at e; rw [← e]; exact sub a ha)⟩, fun y hy => ?_⟩
        rw [e]
        rcases List.mem_append.mp hy with z | z
        · exact win y (sub y z)
        · rw [List.mem_singleton.mp z]; exact ⟨n1, n2⟩
      · exact RI x
    obtain ⟨q1, q2, q3, q4⟩ := ih i1 li (rows.set h ((rows.getD h []).erase m' ++ [n])) m' h1 k v1 ei1 hm (by rw [List.length_set]; exact hl) (fun j a w hj ej => by
      have na : a ≠ h := fun z => by
        have a1 : (s.up.map (·.1))[j]? = some a := by rw [List.getElem?_map, ej]; rfl
        have a2 : (s.up.map (·.1))[i]? = some h := by rw [List.getElem?_map, ei]; rfl
        have lj := (List.getElem?_eq_some_iff.mp a1).1
        have l2 := (List.getElem?_eq_some_iff.mp a2).1
        have := (List.getElem_inj (h₀ := lj) (h₁ := l2) I.und).mp (by rw [(List.getElem?_eq_some_iff.mp a1).2, (List.getElem?_eq_some_iff.mp a2).2, z])
        omega
      rw [rset hh, if_neg na]
      exact same j a w (by omega) ej) RI1 (by omega)
    refine ⟨q1, q2, fun x => ?_, fun x => ?_⟩
    · rw [q3, rset hh]
      by_cases e : x = h
      · rw [if_pos e, e, List.length_append, List.length_erase_of_mem m1']
        have := List.length_pos_of_mem m1'
        show _ - 1 + 1 + _ = _
        omega
      · rw [if_neg e]
    · rw [q4, used_set hh]
      by_cases e : x = n
      · subst e
        rw [if_pos (List.mem_append_right _ (by simp)), if_neg n3', if_neg (fun z => nm z.symm), if_pos rfl]; omega
      · rw [if_neg e]
        by_cases c2 : x = m'
        · subst c2
          rw [if_pos rfl, if_pos m1', if_neg (fun z => (List.mem_append.mp z).elim (fun z => (nd.mem_erase_iff.mp z).1 rfl) fun z => e (List.mem_singleton.mp z))]; omega
        · rw [if_neg c2]
          by_cases c : x ∈ rows.getD h []
          · rw [if_pos (List.mem_append_left _ ((List.mem_erase_of_ne c2).mpr c)), if_pos c]; omega
          · rw [if_neg (fun z => (List.mem_append.mp z).elim (fun z => c (sub x z)) fun z => e (List.mem_singleton.mp z)), if_neg c]; omega
/-! ### rooms -/
def wincF (os : List Off) (n : Nat) (S : List Nat) : Int := ((S.filter fun h => decide (inW os n h)).length : Int)
def gaF (os : List Off) (n : Nat) : Int := (os.getD n o0).2.2
def roomF (os : List Off) (S : List Nat) : Int := sg (fun n => min (gaF os n) (wincF os n S)) os.length
def rlen (rows : List (List Nat)) (h : Nat) : Int := ((rows.getD h []).length : Int)
theorem winc_sg {os : List Off} {n L : Nat} {S : List Nat} (nd : S.Nodup) (lt : ∀ h ∈ S, h < L) : wincF os n S = sg (fun h => if h ∈ S ∧ inW os n h then 1 else 0) L := by
  unfold wincF
  rw [len_sg (nd.filter _) fun h hh => lt h (List.mem_filter.mp hh).1]
  refine sg_congr fun h _ => ?_
  by_cases c : h ∈ S ∧ inW os n h
  · rw [if_pos c, if_pos (List.mem_filter.mpr ⟨c.1, decide_eq_true c.2⟩)]
  · rw [if_neg c, if_neg (fun z => c ⟨(List.mem_filter.mp z).1, of_decide_eq_true (List.mem_filter.mp z).2⟩)]
theorem lens_sg {os : List Off} {rows : List (List Nat)} (RI : RowsI os rows) {S : List Nat} (nd : S.Nodup) (lt : ∀ h ∈ S, h < rows.length) : (S.map (rlen rows)).sum = sg (fun n => sg (fun h => if h ∈ S ∧ n ∈ rows.getD h [] then 1 else 0) rows.length) os.length := by
  rw [sum_sg nd lt, ← sg_swap]
  refine sg_congr fun h _ => ?_
  by_cases c : h ∈ S
  · rw [if_pos c]
    show ((rows.getD h []).length : Int) = _
    rw [len_sg (RI h).1 fun n hn => ((RI h).2 n hn).1]
    refine sg_congr fun n _ => ?_
    by_cases c2 : n ∈ rows.getD h []
    · rw [if_pos c2, if_pos ⟨c, c2⟩]
    · rw [if_neg c2, if_neg (fun z => c2 z.2)]
  · rw [if_neg c, sg_zero fun n _ => if_neg fun z => c z.1]
theorem hall_lack {os : List Off} {rows : List (List Nat)} {left : List Int} {r : Nat} {s : Sv} (I : SvI os rows r s) (C : Cls rows left s) (cl : ∀ h ∈ s.up.map (·.1), ∀ n ∈ unF os (rows.getD h []) h, n ∈ s.ask.map (·.1))
    (RI : RowsI os rows) (UI : ∀ n, n < os.length → usedF rows n = gaF os n - left.getD n 0) : roomF os (s.up.map (·.1)) ≤ ((s.up.map (·.1)).map (rlen rows)).sum := by
  have lt : ∀ h ∈ s.up.map (·.1), h < rows.length := fun h hh => by
    obtain ⟨p, hp, rfl⟩ := List.mem_map.mp hh
    exact I.ult p hp
  rw [lens_sg RI I.und lt]
  refine sg_le fun n hn => ?_
  by_cases c : n ∈ s.ask.map (·.1)
  · obtain ⟨c1, c2⟩ := C n c
    have e : sg (fun h => if h ∈ s.up.map (·.1) ∧ n ∈ rows.getD h [] then (1 : Int) else 0) rows.length = usedF rows n := by
      refine sg_congr fun h hh => ?_
      by_cases d : n ∈ rows.getD h []
      · rw [if_pos d, if_pos ⟨c2 h (mem_hr.mpr ⟨hh, d⟩), d⟩]
      · rw [if_neg d, if_neg (fun z => d z.2)]
    rw [e, UI n hn]
    omega
  · rw [winc_sg I.und lt]
    refine Int.le_trans (Int.min_le_right _ _) (sg_le fun h _ => ?_)
    by_cases d : h ∈ s.up.map (·.1) ∧ inW os n h
    · have : n ∈ rows.getD h [] := Decidable.byContradiction fun z => c (cl h d.1 n (mem_un.mpr ⟨hn, d.2, z⟩))
      rw [if_pos d, if_pos ⟨d.1, this⟩]
      exact Int.le_refl _
    · rw [if_neg d]
      split <;> decide
theorem hall_room {os : List Off} {rows : List (List Nat)} (RI : RowsI os rows) (UI : ∀ n, n < os.length → usedF rows n ≤ gaF os n) {S : List Nat} (nd : S.Nodup) (lt : ∀ h ∈ S, h < rows.length) : (S.map (rlen rows)).sum ≤ roomF os S := by
  rw [lens_sg RI nd lt]
  refine sg_le fun n hn => ?_
  have h1 : sg (fun h => if h ∈ S ∧ n ∈ rows.getD h [] then (1 : Int) else 0) rows.length ≤ usedF rows n := sg_le fun h _ => by
    by_cases d : n ∈ rows.getD h []
    · rw [if_pos d]; split <;> decide
    · rw [if_neg d, if_neg (fun z => d z.2)]; exact Int.le_refl _
  have h2 : sg (fun h => if h ∈ S ∧ n ∈ rows.getD h [] then (1 : Int) else 0) rows.length ≤ wincF os n S := by
    rw [winc_sg nd lt]
    refine sg_le fun h _ => ?_
    by_cases d : h ∈ S ∧ n ∈ rows.getD h []
    · rw [if_pos d, if_pos ⟨d.1, ((RI h).2 n d.2).2⟩]; exact Int.le_refl _
    · rw [if_neg d]; split <;> decide
  have := UI n hn
  omega
/-! ### a day -/
abbrev Dy := List (List Nat) × List Int
def s0 (h : Nat) : Sv := ⟨[], [(h, none)], [h]⟩
def fndF (os : List Off) (h : Nat) (d : Dy) : Sv × Option Nat := goF os d.1 d.2 (2 * d.1.length) (s0 h)
def oneF (os : List Off) (h : Nat) (d : Dy) : Dy ⊕ List Nat := match fndF os h d with
  | (s, some n) => .inl (handF s.ask s.up s.up.length d.1 n, d.2.set n (d.2.getD n 0 - 1))
  | (s, none) => .inr (s.up.map (·.1))
def manyF (os : List Off) (h : Nat) : Nat → Dy → Dy ⊕ List Nat
  | 0, d => .inl d
  | k + 1, d => match oneF os h d with
    | .inl d' => manyF os h k d'
    | .inr S => .inr S
def dayF (os : List Off) : List Int → Nat → Dy → List (List Nat) ⊕ (Nat × List Nat)
  | [], _, d => .inl d.1
  | w :: ws, h, d => match manyF os h w.toNat (d.1 ++ [[]], d.2) with
    | .inl d' => dayF os ws (h + 1) d'
    | .inr S => .inr (h, S)
def servedF (os : List Off) (ws : List Int) : List (List Nat) ⊕ (Nat × List Nat) := dayF os ws 0 ([], os.map (·.2.2))
structure DyI (os : List Off) (d : Dy) : Prop where
  ri : RowsI os d.1
  ll : d.2.length = os.length
  nn : ∀ n, 0 ≤ d.2.getD n 0
  ui : ∀ n, n < os.length → usedF d.1 n = gaF os n - d.2.getD n 0
theorem DyI.le {os : List Off} {d : Dy} (D : DyI os d) : ∀ n, n < os.length → usedF d.1 n ≤ gaF os n := fun n hn => by
  have := D.ui n hn
  have := D.nn n
  omega
theorem lset (l : List Int) (i k : Nat) (v : Int) (hi : i < l.length) : (l.set i v).getD k 0 = if k = i then v else l.getD k 0 := by
  rw [List.getD_eq_getElem?_getD, List.getD_eq_getElem?_getD, List.getElem?_set]
  by_cases h : i = k
  · subst h
    simp [hi]
  · rw [if_neg h, if_neg (fun z => h z.symm)]
theorem fnd_ok {os : List Off} {h : Nat} {d : Dy} (hh : h < d.1.length) : SvI os d.1 h (fndF os h d).1 ∧ (∀ n, (fndF os h d).2 = some n → n < os.length ∧ 0 < d.2.getD n 0 ∧ ∃ a, (n, a) ∈ (fndF os h d).1.ask) ∧
    ((fndF os h d).2 = none → Cls d.1 d.2 (fndF os h d).1 ∧ ∀ a ∈ (fndF os h d).1.up.map (·.1), ∀ n ∈ unF os (d.1.getD a []) a, n ∈ (fndF os h d).1.ask.map (·.1)) :=
  go_ok (SvI.start hh) (fun n hn => (List.not_mem_nil hn).elim) (fun x hx => .inl (by have : x = h := List.mem_singleton.mp hx; rw [this]; exact List.mem_singleton.mpr rfl)) (by show 2 * (_ - 1) + 1 ≤ _; omega)
theorem one_ok {os : List Off} {h : Nat} {d : Dy} (D : DyI os d) (hh : h < d.1.length) :
    (∀ d', oneF os h d = .inl d' → DyI os d' ∧ d'.1.length = d.1.length ∧ ∀ x, (d'.1.getD x []).length = (d.1.getD x []).length + if x = h then 1 else 0) ∧
    (∀ S, oneF os h d = .inr S → S.Nodup ∧ (∀ x ∈ S, x < d.1.length) ∧ h ∈ S ∧ roomF os S ≤ (S.map (rlen d.1)).sum) := by
  obtain ⟨I, f1, f2⟩ := fnd_ok (os := os) hh
  unfold oneF
  cases e : fndF os h d with
  | mk s o =>
    rw [e] at I f1 f2
    dsimp only at I f1 f2 ⊢
    cases o with
    | some n =>
      refine ⟨fun d' ed => ?_, fun S es => by cases es⟩
      cases ed
      obtain ⟨n1, n2, a, ha⟩ := f1 n rfl
      obtain ⟨i, v, ei⟩ := I.mem (I.ask n a ha).2.2.2
      obtain ⟨q1, q2, q3, q4⟩ := hand_ok I i d.1 n a s.up.length v ei ha rfl (fun _ _ _ _ _ => rfl) D.ri (List.getElem?_eq_some_iff.mp ei).1
      have hl : n < d.2.length := by rw [D.ll]; exact n1
      refine ⟨⟨q2, by show (d.2.set _ _).length = _; rw [List.length_set]; exact D.ll, fun x => ?_, fun x hx => ?_⟩, q1, q3⟩
      · show 0 ≤ (d.2.set n _).getD x 0
        rw [lset _ _ _ _ hl]
        have := D.nn x
        split <;> omega
      · show usedF _ x = _ - (d.2.set n _).getD x 0
        rw [q4, lset _ _ _ _ hl, D.ui x hx]
        by_cases c : x = n
        · rw [if_pos c, if_pos c, c]; omega
        · rw [if_neg c, if_neg c]; omega
    | none =>
      refine ⟨(fun d' ed => by cases ed), fun S es => ?_⟩
      cases es
      obtain ⟨c1, c2⟩ := f2 rfl
      refine ⟨I.und, fun x hx => ?_, ?_, hall_lack I c1 c2 D.ri D.ui⟩
      · obtain ⟨p, hp, rfl⟩ := List.mem_map.mp hx
        exact I.ult p hp
      · obtain ⟨t, et, _⟩ := I.root
        rw [et]; exact List.mem_cons_self
theorem many_ok {os : List Off} {h : Nat} : ∀ {k : Nat} {d : Dy}, DyI os d → h < d.1.length →
    (∀ d', manyF os h k d = .inl d' → DyI os d' ∧ d'.1.length = d.1.length ∧ ∀ x, (d'.1.getD x []).length = (d.1.getD x []).length + if x = h then k else 0) ∧
    (∀ S, manyF os h k d = .inr S → S.Nodup ∧ (∀ x ∈ S, x < d.1.length) ∧ h ∈ S ∧ ∃ rows : List (List Nat), roomF os S ≤ (S.map (rlen rows)).sum ∧ (∀ x, x ≠ h → (rows.getD x []).length = (d.1.getD x []).length) ∧ (rows.getD h []).length < (d.1.getD h []).length + k)
  | 0, d, D, hh => ⟨fun d' e => by cases e; exact ⟨D, rfl, fun x => by split <;> rfl⟩, fun S e => by cases e⟩
  | k + 1, d, D, hh => by
    obtain ⟨o1, o2⟩ := one_ok D hh
    cases e : oneF os h d with
    | inl d1 =>
      have em : manyF os h (k + 1) d = manyF os h k d1 := by rw [manyF, e]
      rw [em]
      obtain ⟨D1, l1, n1⟩ := o1 d1 e
      obtain ⟨m1, m2⟩ := many_ok (k := k) D1 (by rw [l1]; exact hh)
      refine ⟨fun d' ed => ?_, fun S es => ?_⟩
      · obtain ⟨q1, q2, q3⟩ := m1 d' ed
        refine ⟨q1, q2.trans l1, fun x => ?_⟩
        rw [q3, n1]
        split <;> omega
      · obtain ⟨q1, q2, q3, rows, q4, q5, q6⟩ := m2 S es
        refine ⟨q1, fun x hx => by rw [← l1]; exact q2 x hx, q3, rows, q4, fun x hx => ?_, ?_⟩
        · rw [q5 x hx, n1, if_neg hx]; rfl
        · rw [n1, if_pos rfl] at q6; omega
    | inr S1 =>
      have em : manyF os h (k + 1) d = .inr S1 := by rw [manyF, e]
      rw [em]
      refine ⟨(fun d' ed => by cases ed), fun S es => ?_⟩
      cases es
      obtain ⟨q1, q2, q3, q4⟩ := o2 S1 e
      exact ⟨q1, q2, q3, d.1, q4, fun _ _ => rfl, by omega⟩
/-- what is told of a day, from an hour on -/
structure DayI (os : List Off) (ws : List Int) (h : Nat) (d : Dy) : Prop where
  di : DyI os d
  len : d.1.length = h
  le : h ≤ ws.length
  full : ∀ x, x < h → ((d.1.getD x []).length : Int) = ws.getD x 0
theorem snoc_getD (rows : List (List Nat)) (x : Nat) : (rows ++ [[]]).getD x [] = rows.getD x [] := by
  rw [List.getD_eq_getElem?_getD, List.getD_eq_getElem?_getD]
  by_cases h : x < rows.length
  · rw [List.getElem?_append_left h]
  · rw [List.getElem?_append_right (by omega), List.getElem?_eq_none (show rows.length ≤ x by omega)]
    cases e : ([[]] : List (List Nat))[x - rows.length]? with
    | none => rfl
    | some v =>
      have := List.mem_of_getElem? e
      rw [List.mem_singleton.mp this]; rfl
theorem used_snoc (rows : List (List Nat)) (x : Nat) : usedF (rows ++ [[]]) x = usedF rows x := by
  unfold usedF
  rw [List.length_append]
  show sg _ rows.length + (if x ∈ (rows ++ [[]]).getD rows.length [] then 1 else 0) = _
  rw [snoc_getD, List.getD_eq_getElem?_getD, List.getElem?_eq_none (Nat.le_refl _)]
  rw [sg_congr (g := fun h => if x ∈ rows.getD h [] then 1 else 0) fun h _ => by rw [snoc_getD]]
  simp
theorem DyI.snoc {os : List Off} {d : Dy} (D : DyI os d) : DyI os (d.1 ++ [[]], d.2) := ⟨fun h => by show (List.Nodup ((d.1 ++ [[]]).getD h [])) ∧ _; rw [snoc_getD]; exact D.ri h, D.ll, D.nn, fun n hn => by show usedF (d.1 ++ [[]]) n = _; rw [used_snoc]; exact D.ui n hn⟩
structure OkR (os : List Off) (ws : List Int) (rows : List (List Nat)) : Prop where
  len : rows.length = ws.length
  ri : RowsI os rows
  full : ∀ x, x < ws.length → ((rows.getD x []).length : Int) = ws.getD x 0
  us : ∀ n, n < os.length → usedF rows n ≤ gaF os n
structure LkR (os : List Off) (ws : List Int) (h : Nat) (S : List Nat) : Prop where
  lt : h < ws.length
  nd : S.Nodup
  le : ∀ x ∈ S, x ≤ h
  mem : h ∈ S
  more : roomF os S < (S.map fun x => ws.getD x 0).sum
  ahead : ∀ T : List Nat, T.Nodup → (∀ x ∈ T, x < h) → (T.map fun x => ws.getD x 0).sum ≤ roomF os T
theorem sum_congr {f g : Nat → Int} : ∀ {T : List Nat}, (∀ x ∈ T, f x = g x) → (T.map f).sum = (T.map g).sum
  | [], _ => rfl
  | a :: T, h => by
    rw [List.map_cons, List.map_cons, List.sum_cons, List.sum_cons, h a List.mem_cons_self, sum_congr fun x hx => h x (List.mem_cons_of_mem _ hx)]
theorem day_ok {os : List Off} {ws : List Int} (wn : ∀ w ∈ ws, 0 ≤ w) : ∀ {l : List Int} {h : Nat} {d : Dy}, ws.drop h = l → DayI os ws h d →
    (∀ rows, dayF os l h d = .inl rows → OkR os ws rows) ∧ (∀ a S, dayF os l h d = .inr (a, S) → LkR os ws a S)
  | [], h, d, el, D => by
    have eh : h = ws.length := by
      have := congrArg List.length el
      rw [List.length_drop] at this
      have h2 := D.le
      have h3 : ws.length - h = 0 := this
      omega
    refine ⟨fun rows e => ?_, fun a S e => by cases e⟩
    cases e
    exact ⟨D.len.trans eh, D.di.ri, fun x hx => D.full x (by omega), D.di.le⟩
  | w :: l, h, d, el, D => by
    have hlt : h < ws.length := by
      have := congrArg List.length el
      rw [List.length_drop, List.length_cons] at this
      omega
    have ew : ws.getD h 0 = w := by
      have : (ws.drop h)[0]? = some w := by rw [el]; rfl
      rw [List.getElem?_drop, Nat.add_zero] at this
      rw [List.getD_eq_getElem?_getD, this]; rfl
    have w0 : 0 ≤ w := wn w (List.mem_of_mem_drop (by rw [el]; exact List.mem_cons_self))
    have elt : ws.drop (h + 1) = l := by
      have := congrArg List.tail el
      rw [List.tail_drop] at this
      exact this
    have hh : h < (d.1 ++ [[]]).length := by rw [List.length_append, D.len]; show h < h + 1; omega
    obtain ⟨m1, m2⟩ := many_ok (k := w.toNat) D.di.snoc hh
    have old : ∀ x, x < h → (((d.1 ++ [[]]).getD x []).length : Int) = ws.getD x 0 := fun x hx => by rw [snoc_getD]; exact D.full x hx
    have new : ((d.1 ++ [[]]).getD h []).length = 0 := by rw [snoc_getD, List.getD_eq_getElem?_getD, List.getElem?_eq_none (by rw [D.len]; exact Nat.le_refl _)]; rfl
    dsimp only at m1 m2 hh
    cases e : manyF os h w.toNat (d.1 ++ [[]], d.2) with
    | inl d1 =>
      have ed : dayF os (w :: l) h d = dayF os l (h + 1) d1 := by rw [dayF, e]
      rw [ed]
      obtain ⟨D1, l1, n1⟩ := m1 d1 e
      have l1 : d1.1.length = h + 1 := by rw [l1, List.length_append, D.len]; rfl
      refine day_ok wn elt ⟨D1, l1, hlt, fun x hx => ?_⟩
      have n1 := n1 x
      by_cases c : x = h
      · rw [c] at n1 ⊢
        rw [if_pos rfl, new] at n1
        rw [ew, n1]; omega
      · rw [if_neg c] at n1
        have := old x (by omega)
        rw [← this, n1]; rfl
    | inr S1 =>
      have ed : dayF os (w :: l) h d = .inr (h, S1) := by rw [dayF, e]
      rw [ed]
      refine ⟨fun rows e => (by cases e), fun a S es => ?_⟩
      cases es
      obtain ⟨q1, q2, q3, rows, q4, q5, q6⟩ := m2 S1 e
      have lt : ∀ x ∈ S1, x ≤ h := fun x hx => by
        have := q2 x hx
        rw [List.length_append, D.len] at this
        have : x < h + 1 := this
        omega
      refine ⟨hlt, q1, lt, q3, Int.lt_of_le_of_lt q4 ?_, fun T nT lT => ?_⟩
      · have le1 : ∀ x ∈ S1, rlen rows x ≤ ws.getD x 0 := fun x hx => by
          by_cases c : x = h
          · rw [c, ew]
            show ((rows.getD h []).length : Int) ≤ w
            omega
          · have := old x (by have := lt x hx; omega)
            show ((rows.getD x []).length : Int) ≤ _
            rw [q5 x c, this]; exact Int.le_refl _
        have lt1 : rlen rows h < ws.getD h 0 := by
          rw [ew]
          show ((rows.getD h []).length : Int) < w
          omega
        clear q1 q2 q4 lt m1 m2 e
        revert le1 q3
        generalize S1 = T
        intro hT le1
        induction T with
        | nil => exact (List.not_mem_nil hT).elim
        | cons a T ih =>
          rw [List.map_cons, List.map_cons, List.sum_cons, List.sum_cons]
          have ha := le1 a List.mem_cons_self
          have hr : (T.map (rlen rows)).sum ≤ (T.map fun x => ws.getD x 0).sum := by
            have hl : ∀ x ∈ T, rlen rows x ≤ ws.getD x 0 := fun x hx => le1 x (List.mem_cons_of_mem _ hx)
            clear ih le1 hT
            induction T with
            | nil => exact Int.le_refl _
            | cons b T ih =>
              rw [List.map_cons, List.map_cons, List.sum_cons, List.sum_cons]
              have := hl b List.mem_cons_self
              have := ih fun x hx => hl x (List.mem_cons_of_mem _ hx)
              omega
          rcases List.mem_cons.mp hT with z | z
          · rw [← z]; omega
          · have := ih z fun x hx => le1 x (List.mem_cons_of_mem _ hx)
            omega
      · rw [← sum_congr (f := rlen d.1) fun x hx => D.full x (lT x hx)]
        exact hall_room D.di.ri D.di.le nT fun x hx => by rw [D.len]; exact lT x hx
theorem served_ok {os : List Off} {ws : List Int} (wn : ∀ w ∈ ws, 0 ≤ w) (gn : ∀ o ∈ os, 0 ≤ o.2.2) : (∀ rows, servedF os ws = .inl rows → OkR os ws rows) ∧ (∀ a S, servedF os ws = .inr (a, S) → LkR os ws a S) := by
  have g : ∀ n, (os.map (·.2.2)).getD n 0 = gaF os n := fun n => by
    unfold gaF
    rw [List.getD_eq_getElem?_getD, List.getD_eq_getElem?_getD, List.getElem?_map]
    cases os[n]? <;> rfl
  refine day_ok wn rfl ⟨⟨fun h => ?_, List.length_map _, fun n => ?_, fun n hn => ?_⟩, rfl, Nat.zero_le _, fun x hx => absurd hx (by omega)⟩
  · exact ⟨by simp, fun n hn => by simp at hn⟩
  · rw [g]
    unfold gaF
    rw [List.getD_eq_getElem?_getD]
    cases e : os[n]? with
    | none => exact Int.le_refl 0
    | some o => exact gn o (List.mem_of_getElem? e)
  · rw [g]
    show (0 : Int) = _
    omega

section
variable {P : Program} {w : World} {K : PySem.W.Frag} {mg : Str → Option Value} {base : Heap}
def nV (n : Nat) : V := V.int (n : Int)
theorem same_free {H H' : Hp} (s : Same H H') {b : Addr} (h : H' b = none) : H b = none := by
  cases e : H b with
  | none => rfl
  | some o => rw [s _ _ e] at h; cases h
theorem iteY {c A B : Prop} [Decidable c] (h : c) (a : A) : if decide c = true then A else B := by
  rw [if_pos (decide_eq_true h)]; exact a
theorem iteN {c A B : Prop} [Decidable c] (h : ¬ c) (b : B) : if decide c = true then A else B := by
  rw [if_neg (fun z => h (of_decide_eq_true z))]; exact b
structure RowsH (H : Hp) (R : Addr) (as : List Addr) (rows : List (List Nat)) : Prop where
  r : H R = some (.lst (as.map V.ref))
  l : as.length = rows.length
  a : ∀ (i : Nat) (x : Addr), as[i]? = some x → H x = some (.lst ((rows.getD i []).map nV))
  nd : as.Nodup
  nr : R ∉ as
section
variable {H H' : Hp} {R x p : Addr} {as : List Addr} {rows : List (List Nat)} {i : Nat} {o : HO} {new : List Nat}
theorem RowsH.same (r : RowsH H R as rows) (s : Same H H') : RowsH H' R as rows := ⟨s _ _ r.r, r.l, fun i x e => s _ _ (r.a i x e), r.nd, r.nr⟩
theorem RowsH.at (r : RowsH H R as rows) (h : i < rows.length) : ∃ x, as[i]? = some x ∧ H x = some (.lst ((rows.getD i []).map nV)) := by
  have hi : i < as.length := by rw [r.l]; exact h
  exact ⟨as[i], List.getElem?_eq_getElem hi, r.a i _ (List.getElem?_eq_getElem hi)⟩
theorem RowsH.ref (r : RowsH H R as rows) (e : as[i]? = some x) : (as.map V.ref)[i]? = some (.ref x) := by rw [List.getElem?_map, e]; rfl
theorem RowsH.put (r : RowsH H R as rows) (n1 : p ≠ R) (n2 : p ∉ as) : RowsH (upd H p o) R as rows :=
  ⟨by rw [upd_ne (Ne.symm n1)]; exact r.r, r.l, fun i x e => by rw [upd_ne (fun z => n2 (by rw [← z]; exact List.mem_of_getElem? e))]; exact r.a i x e, r.nd, r.nr⟩
theorem RowsH.wr (r : RowsH H R as rows) (e : as[i]? = some x) : RowsH (upd H x (.lst (new.map nV))) R as (rows.set i new) := by
  have hi := (List.getElem?_eq_some_iff.mp e).1
  refine ⟨by rw [upd_ne (fun z => r.nr (by rw [z]; exact List.mem_of_getElem? e))]; exact r.r, by rw [List.length_set]; exact r.l, fun j y ej => ?_, r.nd, r.nr⟩
  rw [rset (by rw [← r.l]; exact hi)]
  by_cases c : j = i
  · subst c
    rw [ej] at e
    cases e
    rw [if_pos rfl, upd_same]
  · have ne : y ≠ x := fun z => by
      subst z
      have lj := (List.getElem?_eq_some_iff.mp ej).1
      exact c ((List.getElem_inj (h₀ := lj) (h₁ := hi) r.nd).mp (by rw [(List.getElem?_eq_some_iff.mp ej).2, (List.getElem?_eq_some_iff.mp e).2]))
    rw [if_neg c, upd_ne ne]; exact r.a j y ej
end
theorem of_at {H : Hp} {xs : List V} {os : List Off} (h : DpAll K H xs (os.map offD)) {i : Nat} {v : V} (g : xs[i]? = some v) : ∃ a, v = .ref a ∧ SqT K H a [.int (os.getD i o0).1, .int (os.getD i o0).2.1, .int (os.getD i o0).2.2] ∧ i < os.length := by
  obtain ⟨r, gr, dr⟩ := dpAll_map_at h g
  obtain ⟨a, ts, rfl, ht, dts⟩ := dp_tup dr
  obtain ⟨x, y, z, rfl, d1, d2, d3⟩ := dp_three dts
  rw [dp_int d1, dp_int d2, dp_int d3] at ht
  have e : os.getD i o0 = r := by rw [List.getD_eq_getElem?_getD, gr]; rfl
  rw [e]
  exact ⟨a, rfl, ht, (List.getElem?_eq_some_iff.mp gr).1⟩
theorem un_take (os : List Off) (row : List Nat) (h i : Nat) : ((List.range (i + 1)).filter fun n => decide (inW os n h ∧ n ∉ row)) = ((List.range i).filter fun n => decide (inW os n h ∧ n ∉ row)) ++ if inW os i h ∧ i ∉ row then [i] else [] := by
  rw [List.range_succ, List.filter_append]
  by_cases c : inW os i h ∧ i ∉ row
  · rw [if_pos c, List.filter_cons_of_pos (by simpa using c)]; rfl
  · rw [if_neg c, List.filter_cons_of_neg (by simpa using c)]; rfl
theorem filt_le (p : Nat → Bool) (i : Nat) : (((List.range i).filter p).map nV).length ≤ i := by
  rw [List.length_map]
  exact Nat.le_trans (List.length_filter_le _ _) (by rw [List.length_range]; exact Nat.le_refl _)
theorem inV_n (n : Nat) : ∀ l : List Nat, inV (V.int (n : Int)) (l.map nV) = decide (n ∈ l)
  | [] => rfl
  | a :: l => by
    have ih := inV_n n l
    unfold inV at ih ⊢
    rw [List.map_cons, List.any_cons, ih]
    have e : eqV (nV a) (V.int (n : Int)) = decide (a = n) := by
      show ((a : Int) == (n : Int)) = _
      by_cases h : a = n
      · subst h; simp
      · have : ¬ (a : Int) = (n : Int) := by omega
        simp [h, this]
    rw [e]
    by_cases h : a = n
    · subst h; simp
    · have h2 : ¬ n = a := fun z => h z.symm
      simp [h, h2]
theorem flat_n : ∀ l : List Nat, (l.map nV).all flatV = true
  | [] => rfl
  | _ :: l => by rw [List.map_cons, List.all_cons, flat_n l]; rfl
abbrev s_unused_at : Stmt := topS 3
def n_unused_at : List Str := ["offers", "rows", "hour", "number", "first", "last", "gathers"]
theorem sc_unused_at : FnScope n_unused_at ["offers", "rows", "hour"] (defScope s_unused_at) := ⟨rfl, rfl, rfl, by decide +kernel, rfl, by decide +kernel, by decide +kernel⟩
def spUnused (K : PySem.W.Frag) : Sp := fun vs H Q _ => ∃ (o R : Addr) (h : Nat) (ox : List V) (os : List Off) (as : List Addr) (rows : List (List Nat)), vs = [.ref o, .ref R, .int (h : Nat)] ∧ SqL K H o ox ∧ DpAll K H ox (os.map offD) ∧ os.length ≤ 100 ∧ RowsH H R as rows ∧ h < rows.length ∧
  ∀ (H' : Hp) (U : Addr), Same H H' → H U = none → H' U = some (.lst ((unF os (rows.getD h []) h).map nV)) → Q (.ref U) H'
theorem ok_unused {f : Addr} {fd : FuncData} {k : Nat} (F : Fun K "unused_at" "unused_at" s_unused_at f fd) (T : Txt mg) : FnOk P w K mg base CX0 (k + 1) f fd ["offers", "rows", "hour"] (spUnused K) := by
  refine F.ok sc_unused_at (fun vs H Q E h => ?_) (fun cdv A outer s H vs Q E hr h => ?_)
  · obtain ⟨o, R, h, ox, os, as, rows, rfl, _⟩ := h
    rfl
  · obtain ⟨o, R, h, ox, os, as, rows, rfl, hO, dO, lo, rh, hh, q⟩ := h
    have nd := sc_unused_at.nd
    /- 0 offers, 1 rows, 2 hour, 3 number, 4 first, 5 last, 6 gathers -/
    refine ⟨_, (pss_one (ps_ret (pe_lc (own := [("number", 3), ("first", 4), ("last", 5), ("gathers", 6)]) rfl nd (ki_enum (K := K) (by rfl) T.enumerate (pa_cons (pv 0) pa_nil)) (blkOk_by (N := n_unused_at) (sc := defScope s_unused_at) (by decide +kernel)) (fun _ _ _ _ _ => (kg_tup (K := K) (n := 2) (pgs_cons (pg_name (i := 3) nd rfl (.inl rfl)) (pgs_cons (kg_tup (K := K) (n := 3) (pgs_cons (pg_name (i := 4) nd rfl (.inl rfl)) (pgs_cons (pg_name (i := 5) nd rfl (.inl rfl)) (pgs_cons (pg_name (i := 6) nd rfl (.inl rfl)) pgs_nil)))) pgs_nil)))) (fun _ _ _ _ _ => (pts_one ((pw_and (pt_chain op_le op_lt (pv 4) (pv 2) (pv 5)) (pw_and1 (pt_cmpR (ko_notIn (K := K)) (pv 3) (pe_ix (kx_list (K := K)) (pv 1) (pv 2) (fun _ _ => rfl)) rfl)))).pt)) (fun _ _ _ _ _ => (pv 3))))), ?_⟩
    refine ⟨_, rfl, o, _, rfl, hO, fun U nU => ?_⟩
    have lx : ox.length = os.length := dpAll_map_len dO
    refine lc_it (walk_enum (xs := ox)) (PvL H U fun i => ((List.range i).filter fun n => decide (inW os n h ∧ n ∉ rows.getD h [])).map nV) (pv_start nU rfl) (fun i H' _ z => z.1.seq hO) ?_ ?_
    · rintro i y Ha Hb hi p ⟨tt, x1, x2, rfl, nt, rfl, g1, g2⟩
      cases g1
      replace g2 : ox[i]? = some x2 := g2
      have st := same_upd (o := .tup [.int (i : Nat), x2]) nt
      have sA := p.1.trans st
      obtain ⟨a, rfl, ha, hi2⟩ := of_at (dpAll_same sA dO) g2
      obtain ⟨x, ex, hx⟩ := (rh.same sA).at hh
      have fl : (((List.range i).filter fun n => decide (inW os n h ∧ n ∉ rows.getD h [])).map nV).length < sizeLine := Nat.lt_of_le_of_lt (filt_le _ _) (by rw [sizeLine_eq]; omega)
      have skip : ¬ (inW os i h ∧ i ∉ rows.getD h []) → PvL H U (fun i => ((List.range i).filter fun n => decide (inW os n h ∧ n ∉ rows.getD h [])).map nV) (i + 1) (upd Ha tt (.tup [.int (i : Nat), .ref a])) := fun c => pv_skip p st (by show ((List.range (i + 1)).filter _).map nV = _; rw [un_take, if_neg c, List.append_nil])
      have take : (inW os i h ∧ i ∉ rows.getD h []) → ((List.range (i + 1)).filter fun n => decide (inW os n h ∧ n ∉ rows.getD h [])).map nV = ((List.range i).filter fun n => decide (inW os n h ∧ n ∉ rows.getD h [])).map nV ++ [.int (i : Int)] := fun c => by rw [un_take, if_pos c, List.map_append]; rfl
      have wi : inW os i h ↔ (os.getD i o0).1 ≤ (h : Int) ∧ (h : Int) < (os.getD i o0).2.1 := Iff.rfl
      have hs := st
      have ht : upd Ha tt (.tup [.int (i : Nat), .ref a]) tt = some (.tup [.int (i : Nat), .ref a]) := upd_same
      generalize upd Ha tt (.tup [.int (i : Nat), .ref a]) = Hc at ha hx skip hs ht sA ⊢
      have rc := rh.same sA
      generalize os.getD i o0 = of at ha wi
      obtain ⟨o1, o2, o3⟩ := of
      dsimp only at ha wi
      refine ⟨tt, _, rfl, .inl (.inl ht), rfl, _, _, rfl, _, _, rfl, a, _, rfl, ha, rfl, _, _, rfl, _, _, rfl, _, _, rfl, rfl, rfl, ?_⟩
      have es : ((((List.set (wipe (L2.start n_unused_at [V.ref o, V.ref R, V.int (h : Int)]) (List.map (fun x => x.2) [(Str.ofString "number", 3), (Str.ofString "first", 4), (Str.ofString "last", 5), (Str.ofString "gathers", 6)])) 3 (some (V.int (i : Int)))).set 4 (some (V.int o1))).set 5 (some (V.int o2))).set 6 (some (V.int o3))) = [some (V.ref o), some (V.ref R), some (V.int (h : Int)), some (V.int (i : Int)), some (V.int o1), some (V.int o2), some (V.int o3)] := rfl
      have e0 : L2.start n_unused_at [V.ref o, V.ref R, V.int (h : Int)] = [some (V.ref o), some (V.ref R), some (V.int (h : Int)), none, none, none, none] := rfl
      rw [es, e0]
      refine ⟨rfl, ?_⟩
      refine ⟨_, rfl, _, rfl, _, _, rfl, rfl, _, rfl, ite2 (fun h1 => ?_) (fun h1 => ?_)⟩
      · refine ⟨_, rfl, _, _, rfl, rfl, _, rfl, ite2 (fun h2 => ?_) (fun h2 => ?_)⟩
        · refine ⟨_, rfl, _, rfl, _, rfl, R, _, h, _, rfl, rfl, SqL.of rc.r, atI_nat (rc.ref ex), x, _, rfl, .inl (SqL.of hx), rfl, flat_n _, _, rfl, ?_⟩
          rw [if_pos rfl, inV_n]
          have h1 := of_decide_eq_true h1
          have h2 := of_decide_eq_true h2
          by_cases c : i ∈ rows.getD h []
          · rw [decide_eq_true c]
            exact iteF (skip fun z => z.2 c)
          · rw [decide_eq_false c]
            exact iteT ⟨_, rfl, pv_put nU p hs (take ⟨wi.mpr ⟨h1, h2⟩, c⟩) fl⟩
        · exact iteF (skip fun z => h2 (decide_eq_true (wi.mp z.1).2))
      · exact ⟨_, rfl, iteF (iteF (skip fun z => h1 (decide_eq_true (wi.mp z.1).1)))⟩
    · intro H1 p
      obtain ⟨s1, hU⟩ := pv_end p rfl
      rw [lx] at hU
      exact q _ U s1 nU hU
abbrev s_hours_of : Stmt := topS 4
def n_hours_of : List Str := ["rows", "number", "hour", "row"]
theorem sc_hours_of : FnScope n_hours_of ["rows", "number"] (defScope s_hours_of) := ⟨rfl, rfl, rfl, by decide +kernel, rfl, by decide +kernel, by decide +kernel⟩
def spHoursOf : Sp := fun vs H Q _ => ∃ (R : Addr) (n : Nat) (as : List Addr) (rows : List (List Nat)), vs = [.ref R, .int (n : Nat)] ∧ RowsH H R as rows ∧ rows.length ≤ 100 ∧
  ∀ (H' : Hp) (U : Addr), Same H H' → H U = none → H' U = some (.lst ((hrF rows n).map nV)) → Q (.ref U) H'
theorem ok_hoursof {f : Addr} {fd : FuncData} {k : Nat} (F : Fun K "hours_of" "hours_of" s_hours_of f fd) (T : Txt mg) : FnOk P w K mg base CX0 (k + 1) f fd ["rows", "number"] spHoursOf := by
  refine F.ok sc_hours_of (fun vs H Q E h => ?_) (fun cdv A outer s H vs Q E hr h => ?_)
  · obtain ⟨R, n, as, rows, rfl, _⟩ := h
    rfl
  · obtain ⟨R, n, as, rows, rfl, rh, lr, q⟩ := h
    have nd := sc_hours_of.nd
    /- 0 rows, 1 number, 2 hour, 3 row -/
    refine ⟨_, (pss_one (ps_ret (pe_lc (own := [("hour", 2), ("row", 3)]) rfl nd (ki_enum (K := K) (by rfl) T.enumerate (pa_cons (pv 0) pa_nil)) (blkOk_by (N := n_hours_of) (sc := defScope s_hours_of) (by decide +kernel)) (fun _ _ _ _ _ => (kg_tup (K := K) (n := 2) (pgs_cons (pg_name (i := 2) nd rfl (.inl rfl)) (pgs_cons (pg_name (i := 3) nd rfl (.inl rfl)) pgs_nil)))) (fun _ _ _ _ _ => (pts_one (pt_cmpR (ko_in (K := K)) (pv 1) (pv 3) rfl))) (fun _ _ _ _ _ => (pv 2))))), ?_⟩
    refine ⟨_, rfl, R, _, rfl, SqL.of rh.r, fun U nU => ?_⟩
    have lx : (as.map V.ref).length = rows.length := by rw [List.length_map]; exact rh.l
    have tk : ∀ i, (List.range (i + 1)).filter (fun h => decide (n ∈ rows.getD h [])) = (List.range i).filter (fun h => decide (n ∈ rows.getD h [])) ++ if n ∈ rows.getD i [] then [i] else [] := fun i => by
      rw [List.range_succ, List.filter_append]
      by_cases c : n ∈ rows.getD i []
      · rw [if_pos c, List.filter_cons_of_pos (by simpa using c)]; rfl
      · rw [if_neg c, List.filter_cons_of_neg (by simpa using c)]; rfl
    refine lc_it (walk_enum (xs := as.map V.ref)) (PvL H U fun i => ((List.range i).filter fun h => decide (n ∈ rows.getD h [])).map nV) (pv_start nU rfl) (fun i H' _ z => SqL.of (z.1 _ _ rh.r)) ?_ ?_
    · rintro i y Ha Hb hi p ⟨tt, x1, x2, rfl, nt, rfl, g1, g2⟩
      cases g1
      replace g2 : (as.map V.ref)[i]? = some x2 := g2
      rw [List.getElem?_map] at g2
      obtain ⟨x, ex, rfl⟩ := Option.map_eq_some_iff.mp g2
      have st := same_upd (o := .tup [.int (i : Nat), .ref x]) nt
      have sA := p.1.trans st
      have hx := (rh.same sA).a i x ex
      have hi2 : i < rows.length := by rw [← rh.l]; exact (List.getElem?_eq_some_iff.mp ex).1
      have fl : (((List.range i).filter fun h => decide (n ∈ rows.getD h [])).map nV).length < sizeLine := Nat.lt_of_le_of_lt (filt_le _ _) (by rw [sizeLine_eq]; omega)
      refine ⟨tt, _, rfl, .inl (.inl upd_same), rfl, _, _, rfl, _, _, rfl, rfl, rfl, ?_⟩
      refine ⟨_, rfl, _, rfl, x, _, rfl, .inl (SqL.of hx), rfl, flat_n _, _, rfl, ?_⟩
      rw [if_neg Bool.false_ne_true, inV_n]
      by_cases c : n ∈ rows.getD i []
      · rw [decide_eq_true c]
        exact iteT ⟨_, rfl, pv_put nU p st (by show ((List.range (i + 1)).filter _).map nV = _; rw [tk, if_pos c, List.map_append]; rfl) fl⟩
      · rw [decide_eq_false c]
        exact iteF (pv_skip p st (by show ((List.range (i + 1)).filter _).map nV = _; rw [tk, if_neg c, List.append_nil]))
    · intro H1 p
      obtain ⟨s1, hU⟩ := pv_end p rfl
      rw [lx] at hU
      exact q _ U s1 nU hU

end
end Pot

namespace Pot
open PySem PySem.Spec PyProof.Rows L2
section
variable {P : Program} {w : World} {K : PySem.W.Frag} {mg : Str → Option Value} {base : Heap}
def opN : Option Nat → V
  | none => .non
  | some n => .int (n : Int)
def askK (l : List (Nat × Nat)) : List (Key × V) := l.map fun p => (.inl (p.1 : Int), .int (p.2 : Int))
def upK (l : List (Nat × Option Nat)) : List (Key × V) := l.map fun p => (.inl (p.1 : Int), opN p.2)
theorem val_map {α : Type} (f : α → V) (n : Nat) : ∀ l : List (Nat × α), valV (l.map fun p => ((.inl (p.1 : Int) : Key), f p.2)) (.inl (n : Int)) = (lkA l n).map f
  | [] => rfl
  | p :: l => by
    have ih := val_map f n l
    unfold valV lkA at ih ⊢
    rw [List.map_cons]
    by_cases h : p.1 = n
    · rw [List.find?_cons_of_pos (by simp [h]), List.find?_cons_of_pos (by simp [h])]; rfl
    · have h2 : ¬ (p.1 : Int) = (n : Int) := by omega
      rw [List.find?_cons_of_neg (by simpa using h2), List.find?_cons_of_neg (by simpa using h)]
      exact ih
theorem ask_val (l : List (Nat × Nat)) (n : Nat) : valV (askK l) (.inl (n : Int)) = (lkA l n).map nV := val_map nV n l
theorem up_val (l : List (Nat × Option Nat)) (n : Nat) : valV (upK l) (.inl (n : Int)) = (lkA l n).map opN := val_map opN n l
def HandOk (ask : List (Nat × Nat)) (up : List (Nat × Option Nat)) : Nat → List (List Nat) → Nat → Prop
  | 0, _, _ => False
  | k + 1, rows, n => ∃ h v, lkA ask n = some h ∧ lkA up h = some v ∧ h < rows.length ∧ ∀ m, v = some m → m ∈ rows.getD h [] ∧ HandOk ask up k (rows.set h ((rows.getD h [] ++ [n]).erase m)) m
theorem hand_go {os : List Off} {R0 : List (List Nat)} {r : Nat} {s : Sv} (I : SvI os R0 r s) : ∀ (i : Nat) (rows : List (List Nat)) (n h fuel : Nat) (v : Option Nat), s.up[i]? = some (h, v) → (n, h) ∈ s.ask → rows.length = R0.length →
    (∀ j a w, j ≤ i → s.up[j]? = some (a, w) → rows.getD a [] = R0.getD a []) → i < fuel → HandOk s.ask s.up fuel rows n := by
  intro i
  induction i using Nat.strongRecOn with
  | _ i ih =>
  intro rows n h fuel v ei hn hl same hf
  obtain ⟨k, rfl⟩ : ∃ k, fuel = k + 1 := ⟨fuel - 1, by omega⟩
  have hh : h < rows.length := by rw [hl]; exact I.ult _ (List.mem_of_getElem? ei)
  refine ⟨h, v, lkA_of I.and hn, lkA_of I.und (List.mem_of_getElem? ei), hh, fun m em => ?_⟩
  subst em
  obtain ⟨m1, m2⟩ := I.up h m (List.mem_of_getElem? ei)
  have er := same i h _ (Nat.le_refl _) ei
  obtain ⟨⟨m', h1⟩, hm, e3⟩ := List.mem_map.mp m2
  have e3 : m' = m := e3
  subst e3
  obtain ⟨i1, li, v1, ei1⟩ := I.old m' h1 i h hm ei
  refine ⟨by rw [er]; exact m1, ih i1 li _ m' h1 k v1 ei1 hm (by rw [List.length_set]; exact hl) (fun j a w hj ej => ?_) (by omega)⟩
  have na : a ≠ h := fun z => by
    have a1 : (s.up.map (·.1))[j]? = some a := by rw [List.getElem?_map, ej]; rfl
    have a2 : (s.up.map (·.1))[i]? = some h := by rw [List.getElem?_map, ei]; rfl
    have lj := (List.getElem?_eq_some_iff.mp a1).1
    have l2 := (List.getElem?_eq_some_iff.mp a2).1
    have := (List.getElem_inj (h₀ := lj) (h₁ := l2) I.und).mp (by rw [(List.getElem?_eq_some_iff.mp a1).2, (List.getElem?_eq_some_iff.mp a2).2, z])
    omega
  rw [rset hh, if_neg na]
  exact same j a w (by omega) ej
theorem ers (l : List Nat) {m : Nat} (h : m ∈ l) : ∃ j : Nat, (l.map fun n : Nat => (n : Int))[j]? = some (m : Int) ∧ (∀ i : Nat, i < j → (l.map fun n : Nat => (n : Int))[i]? ≠ some (m : Int)) ∧ ((l.map fun n : Nat => (n : Int)).eraseIdx j).map V.int = (l.erase m).map nV := by
  induction l with
  | nil => exact (List.not_mem_nil h).elim
  | cons a l ih =>
    by_cases e : a = m
    · subst e
      refine ⟨0, rfl, fun i hi => absurd hi (by omega), ?_⟩
      rw [List.erase_cons_head, List.map_cons, List.eraseIdx_cons_zero, List.map_map]; rfl
    · obtain ⟨j, j1, j2, j3⟩ := ih ((List.mem_cons.mp h).resolve_left fun z => e z.symm)
      refine ⟨j + 1, j1, fun i hi => ?_, ?_⟩
      · cases i with
        | zero =>
          intro z
          have z : (a : Int) = (m : Int) := Option.some.inj z
          exact e (by omega)
        | succ i => exact j2 i (by omega)
      · rw [List.erase_cons_tail (by simpa using e), List.map_cons, List.eraseIdx_cons_succ, List.map_cons, j3]; rfl
theorem iteNN {c A B : Prop} [Decidable c] (h : ¬ c) (a : A) : if (!decide c) = true then A else B := by
  rw [decide_eq_false h]; exact iteT a
theorem RowsH.out {H : Hp} {R p : Addr} {as : List Addr} {rows : List (List Nat)} {o : HO} (r : RowsH H R as rows) (e : H p = some o) (n : ∀ xs, o ≠ .lst xs) : p ∉ as := fun z => by
  obtain ⟨i, hi, ei⟩ := List.mem_iff_getElem.mp z
  have := r.a i p (by rw [List.getElem?_eq_getElem hi, ei])
  rw [e] at this
  exact n _ (Option.some.inj this)
theorem hand_none {ask : List (Nat × Nat)} {up : List (Nat × Option Nat)} {k n h : Nat} {rows : List (List Nat)} (e1 : lkA ask n = some h) (e2 : lkA up h = some none) : handF ask up (k + 1) rows n = rows.set h (rows.getD h [] ++ [n]) := by
  rw [handF, e1]; dsimp only; rw [e2]
theorem hand_some {ask : List (Nat × Nat)} {up : List (Nat × Option Nat)} {k n h m : Nat} {rows : List (List Nat)} (e1 : lkA ask n = some h) (e2 : lkA up h = some (some m)) : handF ask up (k + 1) rows n = handF ask up k (rows.set h ((rows.getD h [] ++ [n]).erase m)) m := by
  rw [handF, e1]; dsimp only; rw [e2]; dsimp only; rw [List.set_set]
abbrev s_hand_on : Stmt := topS 5
def n_hand_on : List Str := ["rows", "number", "asked_by", "gives_up", "given", "hour"]
theorem sc_hand_on : FnScope n_hand_on ["rows", "number", "asked_by", "gives_up"] (defScope s_hand_on) := ⟨rfl, rfl, rfl, by decide +kernel, rfl, by decide +kernel, by decide +kernel⟩
def spHand : Sp := fun vs H Q _ => ∃ (R A G : Addr) (n k : Nat) (as : List Addr) (rows : List (List Nat)) (ask : List (Nat × Nat)) (up : List (Nat × Option Nat)), vs = [.ref R, .int (n : Nat), .ref A, .ref G] ∧ RowsH H R as rows ∧ H A = some (.dK (askK ask)) ∧ H G = some (.dK (upK up)) ∧ HandOk ask up k rows n ∧ (∀ h, (rows.getD h []).length ≤ 200) ∧
  ∀ H', RowsH H' R as (handF ask up k rows n) → Sm as H H' → Q .non H'
set_option maxHeartbeats 1000000 in
theorem ok_hand {f : Addr} {fd : FuncData} {k : Nat} (F : Fun K "hand_on" "hand_on" s_hand_on f fd) (T : Txt mg) : FnOk P w K mg base CX0 (k + 1) f fd ["rows", "number", "asked_by", "gives_up"] spHand := by
  refine F.ok sc_hand_on (fun vs H Q E h => ?_) (fun cdv A outer s H vs Q E hr h => ?_)
  · obtain ⟨R, A, G, n, k, as, rows, ask, up, rfl, _⟩ := h
    rfl
  · obtain ⟨R, Aa, G, n, kk, as, rows, ask, up, rfl, rh, hA, hG, ok, lim, q⟩ := h
    have nd := sc_hand_on.nd
    have hu := hu_of hr
    /- 0 rows, 1 number, 2 asked_by, 3 gives_up, 4 given, 5 hour -/
    refine ⟨_, (pss_cons (ps_set (i := 4) nd rfl (.inl rfl) (pv 1))
      (pss_one (ps_while PassesOwn.never (pt_cmpR op_notN (pv 4) pe_non (nomark _))
          (pss_cons (ps_set (i := 5) nd rfl (.inl rfl) (pe_dget hu (pv 2) (pv 4) (fun _ _ => rfl)))
          (pss_cons (ps_expr (pe_bm PySem.F.plainAttrs_list PySem.F.slot_list_append PySem.F.type_list_append mt_append (pe_ix (kx_list (K := K)) (pv 0) (pv 5) (fun _ _ => rfl)) (pa_cons (pv 4) pa_nil)))
          (pss_cons (ps_set (i := 4) nd rfl (.inl rfl) (pe_dget hu (pv 3) (pv 5) (fun _ _ => rfl)))
          (pss_one (ps_if (pt_cmpR op_notN (pv 4) pe_non (nomark _))
              (pss_one (ps_expr (pe_bm PySem.F.plainAttrs_list PySem.F.slot_list_remove PySem.F.type_list_remove mt_remove (pe_ix (kx_list (K := K)) (pv 0) (pv 5) (fun _ _ => rfl)) (pa_cons (pv 4) pa_nil))))
              pss_nil)))))))), ?_⟩
    have nA := rh.out hA (fun _ z => by cases z)
    have nG := rh.out hG (fun _ z => by cases z)
    refine ⟨_, rfl, ?_⟩
    show tWhile _ _ _ ((L2.start n_hand_on [V.ref R, V.int (n : Int), V.ref Aa, V.ref G]).set 4 (some (V.int (n : Int)))) H
    have est : (L2.start n_hand_on [V.ref R, V.int (n : Int), V.ref Aa, V.ref G]).set 4 (some (V.int (n : Int))) = [some (.ref R), some (.int (n : Int)), some (.ref Aa), some (.ref G), some (.int (n : Int)), none] := rfl
    rw [est]
    refine ⟨fun m σ H2 => ∃ g v5, σ = [some (.ref R), some (.int (n : Int)), some (.ref Aa), some (.ref G), some g, v5] ∧ Sm as H H2 ∧ ((g = .non ∧ RowsH H2 R as (handF ask up kk rows n)) ∨ ∃ (rows' : List (List Nat)) (n' : Nat), g = .int (n' : Int) ∧ RowsH H2 R as rows' ∧ HandOk ask up m rows' n' ∧ handF ask up m rows' n' = handF ask up kk rows n ∧ ∀ h, (rows'.getD h []).length ≤ 200),
      ⟨kk, _, _, rfl, Same.refl _, .inr ⟨rows, n, rfl, rh, ok, rfl, lim⟩⟩, ?_⟩
    clear rh ok lim est
    rintro m σ H2 ⟨g, v5, rfl, sm, alt⟩
    refine ⟨_, rfl, rfl, _, rfl, ?_⟩
    rcases alt with ⟨rfl, rh⟩ | ⟨rows', n', rfl, rh, ok, eq, lim⟩
    · exact iteNS rfl (q _ rh sm)
    cases m with
    | zero => exact (show False from ok).elim
    | succ m =>
      obtain ⟨h, v, e1, e2, hh, hm⟩ := ok
      obtain ⟨x, ex, hx⟩ := rh.at hh
      have hA2 := sm_at sm nA hA
      have hG2 := sm_at sm nG hG
      refine iteNN (fun z => by cases z) ?_
      refine ⟨fun σ' H' => ∃ g v5, σ' = [some (.ref R), some (.int (n : Int)), some (.ref Aa), some (.ref G), some g, v5] ∧ Sm as H H' ∧ ((g = .non ∧ RowsH H' R as (handF ask up kk rows n)) ∨ ∃ (rows' : List (List Nat)) (n' : Nat), g = .int (n' : Int) ∧ RowsH H' R as rows' ∧ HandOk ask up m rows' n' ∧ handF ask up m rows' n' = handF ask up kk rows n ∧ ∀ h, (rows'.getD h []).length ≤ 200), fun _ _ z => ⟨m, Nat.lt_succ_self _, z⟩, ?_⟩
      have ga : DGet H2 Aa (.int (n' : Int)) (some (.int (h : Int))) := .inl ⟨_, .inl (n' : Int), .inl hA2, rfl, by rw [ask_val, e1]; rfl⟩
      refine ⟨_, rfl, _, rfl, Aa, _, rfl, ga, ?_⟩
      refine ⟨_, rfl, _, rfl, R, _, h, _, rfl, rfl, SqL.of rh.r, atI_nat (rh.ref ex), .inl ⟨rfl, _, SqL.of hx⟩, _, rfl, x, _, _, rfl, rfl, hx, (by rw [List.length_map, sizeLine_eq]; have := lim h; omega), ?_⟩
      have en : (rows'.getD h []).map nV ++ [V.int (n' : Int)] = (rows'.getD h [] ++ [n']).map nV := by rw [List.map_append]; rfl
      rw [en]
      have r1 := rh.wr (new := rows'.getD h [] ++ [n']) ex
      have xas : x ∈ as := List.mem_of_getElem? ex
      have sm1 : Sm as H (upd H2 x (.lst ((rows'.getD h [] ++ [n']).map nV))) := sm.trans (sm_wr xas)
      have hG3 := sm_at sm1 nG hG
      have hx1 : upd H2 x (.lst ((rows'.getD h [] ++ [n']).map nV)) x = some (.lst ((rows'.getD h [] ++ [n']).map nV)) := upd_same
      generalize upd H2 x (.lst ((rows'.getD h [] ++ [n']).map nV)) = H3 at r1 sm1 hG3 hx1 ⊢
      have gg : DGet H3 G (.int (h : Int)) (some (opN v)) := .inl ⟨_, .inl (h : Int), .inl hG3, rfl, by rw [up_val, e2]; rfl⟩
      refine ⟨_, rfl, _, rfl, G, _, rfl, gg, ?_⟩
      refine ⟨_, rfl, rfl, _, rfl, ?_⟩
      cases v with
      | none =>
        refine iteNS rfl ⟨_, _, rfl, sm1, .inl ⟨rfl, ?_⟩⟩
        rw [← eq, hand_none e1 e2]; exact r1
      | some m1 =>
        obtain ⟨mm, ok2⟩ := hm m1 rfl
        obtain ⟨j, j1, j2, j3⟩ := ers (rows'.getD h [] ++ [n']) (List.mem_append_left [n'] mm)
        refine iteNN (fun z => by cases z) ?_
        refine ⟨_, rfl, _, rfl, R, _, h, _, rfl, rfl, SqL.of r1.r, atI_nat (r1.ref ex), .inl ⟨rfl, _, SqL.of hx1⟩, _, rfl, x, _, _, j, rfl, rfl, (by rw [hx1, List.map_map]; rfl), j1, j2, ?_⟩
        rw [j3]
        have r2 := r1.wr (new := (rows'.getD h [] ++ [n']).erase m1) ex
        rw [List.set_set] at r2
        refine ⟨_, _, rfl, sm1.trans (sm_wr xas), .inr ⟨_, m1, rfl, r2, ok2, by rw [← eq, hand_some e1 e2], fun y => ?_⟩⟩
        rw [rset hh]
        have l1 := lim h
        split
        · rw [List.length_erase_of_mem (List.mem_append_left [n'] mm), List.length_append]
          show _ + 1 - 1 ≤ 200
          omega
        · exact lim y

end
end Pot

namespace Pot
open PySem PySem.Spec PyProof.Rows L2
section
variable {P : Program} {w : World} {K : PySem.W.Frag} {mg : Str → Option Value} {base : Heap}
def natSort (l : List Nat) : List Nat := l.mergeSort fun a b => decide (a ≤ b)
theorem natSort_perm (l : List Nat) : (natSort l).Perm l := List.mergeSort_perm _ _
theorem natSort_pair (l : List Nat) : (natSort l).Pairwise (· ≤ ·) := (List.pairwise_mergeSort (le := fun a b : Nat => decide (a ≤ b)) (fun a b c h1 h2 => by simp only [decide_eq_true_eq] at h1 h2 ⊢; omega) (fun a b => by simp only [Bool.or_eq_true, decide_eq_true_eq]; omega) l).imp fun h => of_decide_eq_true h
theorem sorted_same : ∀ {a b : List Int}, a.Perm b → a.Pairwise (· ≤ ·) → b.Pairwise (· ≤ ·) → a = b
  | [], b, p, _, _ => (List.nil_perm.mp p).symm ▸ rfl
  | x :: a, b, p, ha, hb => by
    cases b with
    | nil => exact absurd p.length_eq (by simp)
    | cons y b =>
      obtain ⟨h1, h2⟩ := List.pairwise_cons.mp ha
      obtain ⟨h3, h4⟩ := List.pairwise_cons.mp hb
      have e : x = y := by
        have m1 : y ∈ x :: a := p.mem_iff.mpr List.mem_cons_self
        have m2 : x ∈ y :: b := p.mem_iff.mp List.mem_cons_self
        rcases List.mem_cons.mp m1 with e | m1
        · exact e.symm
        · rcases List.mem_cons.mp m2 with e | m2
          · exact e
          · have := h1 y m1
            have := h3 x m2
            omega
      subst e
      rw [sorted_same (List.Perm.cons_inv p) h2 h4]
theorem natSort_of {l : List Nat} {ns : List Int} (p : ns.Perm (l.map fun n : Nat => (n : Int))) (s : ns.Pairwise (· ≤ ·)) : ns.map V.int = (natSort l).map nV := by
  have e : ns = (natSort l).map fun n : Nat => (n : Int) := by
    refine sorted_same (p.trans ((natSort_perm l).map _).symm) s ?_
    exact List.pairwise_map.mpr ((natSort_pair l).imp fun h => by omega)
  rw [e, List.map_map]; rfl
theorem keys_ask {l : List (Nat × Nat)} {n : Nat} : ((lkA l n).map nV).isSome = true ↔ n ∈ l.map (·.1) := by
  unfold lkA
  rw [Option.isSome_map, Option.isSome_map, List.find?_isSome]
  constructor
  · rintro ⟨p, hp, h⟩
    exact List.mem_map.mpr ⟨p, hp, of_decide_eq_true h⟩
  · intro h
    obtain ⟨p, hp, e⟩ := List.mem_map.mp h
    exact ⟨p, hp, decide_eq_true e⟩
theorem keys_up {l : List (Nat × Option Nat)} {n : Nat} : ((lkA l n).map opN).isSome = true ↔ n ∈ l.map (·.1) := by
  unfold lkA
  rw [Option.isSome_map, Option.isSome_map, List.find?_isSome]
  constructor
  · rintro ⟨p, hp, h⟩
    exact List.mem_map.mpr ⟨p, hp, of_decide_eq_true h⟩
  · intro h
    obtain ⟨p, hp, e⟩ := List.mem_map.mp h
    exact ⟨p, hp, decide_eq_true e⟩
theorem put_ask {l : List (Nat × Nat)} {n h : Nat} (c : n ∉ l.map (·.1)) : putK (askK l) (.inl (n : Int)) (.int (h : Int)) = askK (l ++ [(n, h)]) := by
  have e : valV (askK l) (.inl (n : Int)) = none := by
    rw [ask_val]
    cases q : (lkA l n).map nV with
    | none => rfl
    | some v => exact absurd (keys_ask.mp (by rw [q]; rfl)) c
  rw [L2.putK_new _ e]
  unfold askK
  rw [List.map_append]; rfl
theorem put_up {l : List (Nat × Option Nat)} {n h : Nat} (c : h ∉ l.map (·.1)) : putK (upK l) (.inl (h : Int)) (.int (n : Int)) = upK (l ++ [(h, some n)]) := by
  have e : valV (upK l) (.inl (h : Int)) = none := by
    rw [up_val]
    cases q : (lkA l h).map opN with
    | none => rfl
    | some v => exact absurd (keys_up.mp (by rw [q]; rfl)) c
  rw [L2.putK_new _ e]
  unfold upK
  rw [List.map_append]; rfl
structure SvH (H0 H : Hp) (A G W : Addr) (s : Sv) : Prop where
  x : Same H0 H
  a : H A = some (.dK (askK s.ask))
  g : H G = some (.dK (upK s.up))
  w : H W = some (.lst (s.wt.map nV))
theorem SvH.same {H0 H H' : Hp} {A G W : Addr} {s : Sv} (h : SvH H0 H A G W s) (e : Same H H') : SvH H0 H' A G W s := ⟨h.x.trans e, e _ _ h.a, e _ _ h.g, e _ _ h.w⟩
abbrev s_serve_one : Stmt := topS 2
def n_serve_one : List Str := ["offers", "rows", "left", "hour", "asked_by", "gives_up", "waiting", "asking", "unused", "number", "other"]
theorem sc_serve_one : FnScope n_serve_one ["offers", "rows", "left", "hour"] (defScope s_serve_one) := ⟨rfl, rfl, rfl, by decide +kernel, rfl, by decide +kernel, by decide +kernel⟩
def spServe (K : PySem.W.Frag) : Sp := fun vs H Q _ => ∃ (o R L : Addr) (h : Nat) (ox : List V) (os : List Off) (as : List Addr) (rows : List (List Nat)) (left : List Int), vs = [.ref o, .ref R, .ref L, .int (h : Nat)] ∧ SqL K H o ox ∧ DpAll K H ox (os.map offD) ∧ os.length ≤ 100 ∧ RowsH H R as rows ∧ H L = some (.lst (left.map V.int)) ∧ L ∉ as ∧ L ≠ R ∧ DyI os (rows, left) ∧ h < rows.length ∧ rows.length ≤ 60 ∧ (∀ h, (rows.getD h []).length ≤ 199) ∧
  (∀ (d : Dy) (H' : Hp), oneF os h (rows, left) = .inl d → RowsH H' R as d.1 → H' L = some (.lst (d.2.map V.int)) → Sm (L :: as) H H' → Q .non H') ∧
  (∀ (S : List Nat) (H' : Hp) (p : Addr), oneF os h (rows, left) = .inr S → Same H H' → H p = none → H' p = some (.lst ((natSort S).map nV)) → Q (.ref p) H')
set_option maxHeartbeats 2000000 in
theorem ok_serve {f : Addr} {fd : FuncData} {k : Nat} (F : Fun K "serve_one" "serve_one" s_serve_one f fd) (T : Txt mg) (c_unused_at : Cl P w K mg base (k + 1) "unused_at" (spUnused K)) (c_hours_of : Cl P w K mg base (k + 1) "hours_of" spHoursOf) (c_hand_on : Cl P w K mg base (k + 1) "hand_on" spHand) : FnOk P w K mg base CX0 (k + 2) f fd ["offers", "rows", "left", "hour"] (spServe K) := by
  refine F.ok sc_serve_one (fun vs H Q E h => ?_) (fun cdv A outer s H vs Q E hr h => ?_)
  · obtain ⟨o, R, L, h, ox, os, as, rows, left, rfl, _⟩ := h
    rfl
  · obtain ⟨o, R, L, h, ox, os, as, rows, left, rfl, hO, dO, lo, rh, hL, nL, LR, dy, hh, l60, lim, q1, q2⟩ := h
    have nd := sc_serve_one.nd
    have hu := hu_of hr
    /- 0 offers, 1 rows, 2 left, 3 hour, 4 asked_by, 5 gives_up, 6 waiting, 7 asking, 8 unused, 9 number, 10 other -/
    refine ⟨_, (pss_cons (ps_set (i := 4) nd rfl (.inl rfl) pe_dnewK)
      (pss_cons (ps_set (i := 5) nd rfl (.inl rfl) (pe_disp (pps_cons (pv 3) pe_non pps_nil) (by rfl) (by rfl) (fun z => by cases z) (by decide)))
      (pss_cons (ps_set (i := 6) nd rfl (.inl rfl) (pe_lst (pa_cons (pv 3) pa_nil)))
      (pss_cons (ps_while PassesOwn.never (kt_truth (K := K) (pv 6))
          (pss_cons (ps_set (i := 7) nd rfl (.inl rfl) (pe_bm0 PySem.F.plainAttrs_list PySem.F.slot_list_pop PySem.F.type_list_pop mt_pop (pv 6)))
          (pss_cons (ps_set (i := 8) nd rfl (.inl rfl) (pe_cl c_unused_at hr (by omega) (by rfl) (pa_cons (pv 0) (pa_cons (pv 1) (pa_cons (pv 7) pa_nil)))))
          (pss_one (ps_for PassesOwn.never rfl (ki_list (K := K) (pv 8)) (pg_name (i := 9) nd rfl (.inl rfl))
              (pss_cons (ps_if (pt_cmp (pc_din hu (pv 9) (pv 4)))
                  (pss_one ps_continue)
                  pss_nil)
              (pss_cons (ps_dput hu (pv 4) (pv 9) (pv 7) rfl)
              (pss_cons (ps_if (pt_cmpR op_gt (pe_ix (kx_list (K := K)) (pv 2) (pv 9) (fun _ _ => rfl)) pe_int (nomark _))
                  (pss_cons (ps_augS (pv 2) (pv 9) (kget_list (K := K)) pe_int ip_sub set_list)
                  (pss_cons (ps_expr (pe_cl c_hand_on hr (by omega) (by rfl) (pa_cons (pv 1) (pa_cons (pv 9) (pa_cons (pv 4) (pa_cons (pv 5) pa_nil))))))
                  (pss_one (ps_ret pe_non))))
                  pss_nil)
              (pss_one (ps_for PassesOwn.never rfl (ki_list (K := K) (pe_cl c_hours_of hr (by omega) (by rfl) (pa_cons (pv 1) (pa_cons (pv 9) pa_nil)))) (pg_name (i := 10) nd rfl (.inl rfl))
                  (pss_one (ps_if (pt_cmp (pc_dnotin hu (pv 10) (pv 5)))
                      (pss_cons (ps_dput hu (pv 5) (pv 10) (pv 9) rfl)
                      (pss_one (ps_expr (pe_bm PySem.F.plainAttrs_list PySem.F.slot_list_append PySem.F.type_list_append mt_append (pv 6) (pa_cons (pv 10) pa_nil)))))
                      pss_nil))))))))))))
      (pss_one (ps_ret (pe_callB (kc_sorted (K := K)) (by rfl) T.sorted (by decide +kernel) (pa_cons (pe_callTy (call_list_dK rfl) (by rfl) T.list (by decide +kernel) (pa_cons (pv 5) pa_nil)) pa_nil)))))))), ?_⟩
    refine fun A nA => ?_
    refine fun G nG => ⟨_, rfl, ?_⟩
    refine ⟨upd_same, [(.inl (h : Int), .non)], rfl, (by show 1 ≤ 15; decide), ?_⟩
    have nG0 : H G = none := same_free (same_upd nA) nG
    have AG : A ≠ G := ne_of_none upd_same nG
    have sAG : Same H (upd (upd (upd H A (.dK [])) G (.dK [])) G (.dK (mergeK [] [(.inl (h : Int), .non)]))) := same_put ((same_upd nA).trans (same_upd nG)) nG0
    have hA : upd (upd (upd H A (.dK [])) G (.dK [])) G (.dK (mergeK [] [(.inl (h : Int), .non)])) A = some (.dK (askK [])) := by rw [upd_ne AG, upd_ne AG]; exact upd_same
    have hG : upd (upd (upd H A (.dK [])) G (.dK [])) G (.dK (mergeK [] [(.inl (h : Int), .non)])) G = some (.dK (upK [(h, none)])) := upd_same
    generalize upd (upd (upd H A (.dK [])) G (.dK [])) G (.dK (mergeK [] [(.inl (h : Int), .non)])) = H1 at sAG hA hG ⊢
    refine ⟨_, rfl, (by show 1 ≤ sizeLine; decide), fun W nW => ?_⟩
    have nW0 : H W = none := same_free sAG nW
    have AW : A ≠ W := ne_of_none hA nW
    have GW : G ≠ W := ne_of_none hG nW
    have sW := same_upd (o := .lst [.int (h : Int)]) nW
    have S0 : SvH H (upd H1 W (.lst [.int (h : Int)])) A G W (s0 h) := ⟨sAG.trans sW, sW _ _ hA, sW _ _ hG, upd_same⟩
    generalize upd H1 W (.lst [.int (h : Int)]) = H2 at S0 ⊢
    clear sAG hA hG sW nG nW
    have est : ((((L2.start n_serve_one [V.ref o, V.ref R, V.ref L, V.int (h : Int)]).set 4 (some (V.ref A))).set 5 (some (V.ref G))).set 6 (some (V.ref W))) = [some (.ref o), some (.ref R), some (.ref L), some (.int (h : Int)), some (.ref A), some (.ref G), some (.ref W), none, none, none, none] := rfl
    show tSeq _ _ _ ((((L2.start n_serve_one [V.ref o, V.ref R, V.ref L, V.int (h : Int)]).set 4 (some (V.ref A))).set 5 (some (V.ref G))).set 6 (some (V.ref W))) H2
    rw [est]
    have ud : ∀ {s : Sv}, SvI os rows h s → s.up.length ≤ rows.length := fun {s} I => by
      have h1 : (s.up.map (·.1)).length ≤ (List.range rows.length).length := List.Nodup.length_le_of_subset I.und fun x hx => by
        obtain ⟨p, hp, rfl⟩ := List.mem_map.mp hx
        exact List.mem_range.mpr (I.ult p hp)
      rwa [List.length_map, List.length_range] at h1
    have ad : ∀ {s : Sv}, SvI os rows h s → s.ask.length ≤ os.length := fun {s} I => by
      have h1 : (s.ask.map (·.1)).length ≤ (List.range os.length).length := List.Nodup.length_le_of_subset I.and fun x hx => by
        obtain ⟨p, hp, rfl⟩ := List.mem_map.mp hx
        exact List.mem_range.mpr (I.ask p.1 p.2 hp).1
      rwa [List.length_map, List.length_range] at h1
    refine ⟨fun m σ Hx => ∃ s v7 v8 v9 v10, σ = [some (.ref o), some (.ref R), some (.ref L), some (.int (h : Int)), some (.ref A), some (.ref G), some (.ref W), v7, v8, v9, v10] ∧ SvH H Hx A G W s ∧ SvI os rows h s ∧ Cls rows left s ∧ 2 * (rows.length - s.up.length) + s.wt.length ≤ m ∧ goF os rows left m s = fndF os h (rows, left) ∧ m ≤ 2 * rows.length,
      ⟨2 * rows.length, s0 h, _, _, _, _, rfl, S0, SvI.start hh, fun n hn => (List.not_mem_nil hn).elim, by show 2 * (rows.length - 1) + 1 ≤ _; omega, rfl, Nat.le_refl _⟩, ?_⟩
    clear S0 est
    rintro m σ Hx ⟨s, v7, v8, v9, v10, rfl, SH, I, C, hm, eg, mb⟩
    refine ⟨_, rfl, !(s.wt.isEmpty), ?_, ?_⟩
    · refine .inl ⟨_, SqL.of SH.w, ?_⟩
      cases s.wt <;> rfl
    cases ew : s.wt.getLast? with
    | none =>
      have ew : s.wt = [] := List.getLast?_eq_none_iff.mp ew
      have e0 : fndF os h (rows, left) = (s, none) := by
        rw [← eg]
        cases m with
        | zero => rfl
        | succ m => rw [goF, ew] <;> rfl
      have e1 : oneF os h (rows, left) = .inr (s.up.map (·.1)) := by unfold oneF; rw [e0]
      rw [ew]
      refine iteF ?_
      refine ⟨_, rfl, G, upK s.up, rfl, SH.g, fun p np => ?_⟩
      have sp := same_upd (o := .lst ((upK s.up).map fun kv => kV kv.1)) np
      have ek : (upK s.up).map (fun kv => kV kv.1) = ((s.up.map (·.1)).map fun n : Nat => (n : Int)).map V.int := by
        unfold upK
        rw [List.map_map, List.map_map, List.map_map]; rfl
      refine ⟨p, (s.up.map (·.1)).map (fun n : Nat => (n : Int)), rfl, SqL.of (by rw [upd_same, ek]), (by rw [List.length_map, List.length_map]; have := ud I; omega), fun ns p2 pm sd np2 => ?_⟩
      have s2 := same_upd (o := .lst (ns.map V.int)) np2
      exact q2 _ _ p2 e1 ((SH.x.trans sp).trans s2) (same_free (SH.x.trans sp) np2) (by rw [upd_same, natSort_of pm sd])
    | some a =>
      have ne : s.wt ≠ [] := fun z => by rw [z] at ew; cases ew
      have ewt : s.wt = s.wt.dropLast ++ [a] := by
        have q := List.dropLast_concat_getLast ne
        rw [List.getLast?_eq_some_getLast ne] at ew
        rw [← Option.some.inj ew]; exact q.symm
      have lw : s.wt.length = s.wt.dropLast.length + 1 := by
        have q := congrArg List.length ewt
        rw [List.length_append] at q
        exact q
      obtain ⟨k', rfl⟩ : ∃ k', m = k' + 1 := ⟨m - 1, by omega⟩
      have ha : a ∈ s.up.map (·.1) := I.wt a (by rw [ewt]; simp)
      have ha2 : a < rows.length := by
        obtain ⟨p, hp, rfl⟩ := List.mem_map.mp ha
        exact I.ult p hp
      have hin : (!s.wt.isEmpty) = true := by
        cases q : s.wt with
        | nil => exact absurd q ne
        | cons x l => rfl
      rw [hin]
      refine iteT ?_
      have eg2 : goF os rows left (k' + 1) s = (match scanF rows left a (unF os (rows.getD a []) a) ⟨s.ask, s.up, s.wt.dropLast⟩ with | (s', some n) => (s', some n) | (s', none) => goF os rows left k' s') := by rw [goF, ew] <;> rfl
      rw [eg2] at eg
      have J : SvI os rows h ⟨s.ask, s.up, s.wt.dropLast⟩ := ⟨I.und, I.and, I.root, I.ult, I.up, I.ask, I.old, fun b hb => I.wt b (by have q := List.mem_append_left [a] (show b ∈ s.wt.dropLast from hb); rw [← ewt] at q; exact q)⟩
      have C1 : Cls rows left ⟨s.ask, s.up, s.wt.dropLast⟩ := C
      have SC := scan_ok (left := left) (h := a) (l := unF os (rows.getD a []) a) J C1 ha fun n hn => hn
      refine ⟨fun σ' H' => ∃ s v7 v8 v9 v10, σ' = [some (.ref o), some (.ref R), some (.ref L), some (.int (h : Int)), some (.ref A), some (.ref G), some (.ref W), v7, v8, v9, v10] ∧ SvH H H' A G W s ∧ SvI os rows h s ∧ Cls rows left s ∧ 2 * (rows.length - s.up.length) + s.wt.length ≤ k' ∧ goF os rows left k' s = fndF os h (rows, left) ∧ k' ≤ 2 * rows.length, fun _ _ z => ⟨k', Nat.lt_succ_self _, z⟩, ?_⟩
      have hl1 : (s.wt.map nV)[(s.wt.map nV).length - 1]? = some (nV a) := by
        rw [ewt, List.map_append, List.length_append]
        show (_ ++ [nV a])[_ + 1 - 1]? = _
        rw [Nat.add_sub_cancel, List.getElem?_append_right (Nat.le_refl _), Nat.sub_self]; rfl
      refine ⟨_, rfl, .inl ⟨rfl, _, SqL.of SH.w⟩, W, _, _, rfl, rfl, SH.w, hl1, ?_⟩
      have S1 : SvH H (upd Hx W (.lst (s.wt.map nV).dropLast)) A G W ⟨s.ask, s.up, s.wt.dropLast⟩ := ⟨same_put SH.x nW0, by rw [upd_ne AW]; exact SH.a, by rw [upd_ne GW]; exact SH.g, by rw [upd_same, List.map_dropLast]⟩
      generalize upd Hx W (.lst (s.wt.map nV).dropLast) = Hy at S1 ⊢
      refine ⟨_, rfl, _, rfl, _, rfl, o, R, a, ox, os, as, rows, rfl, S1.x.seq hO, dpAll_same S1.x dO, lo, rh.same S1.x, ha2, fun Hz U sz nU hU => ?_⟩
      have S2 := S1.same sz
      have UA : A ≠ U := ne_of_none S1.a nU
      have UG : G ≠ U := ne_of_none S1.g nU
      have UW : W ≠ U := ne_of_none S1.w nU
      obtain ⟨ul, eul⟩ : ∃ ul, unF os (rows.getD a []) a = ul := ⟨_, rfl⟩
      have hul : ∀ n ∈ ul, n ∈ unF os (rows.getD a []) a := fun n hn => by rw [eul]; exact hn
      rw [eul] at eg SC hU
      refine ⟨_, rfl, U, rfl, ⟨_, SqL.of hU⟩, ?_⟩
      obtain ⟨s1, es1⟩ : ∃ s1 : Sv, s1 = ⟨s.ask, s.up, s.wt.dropLast⟩ := ⟨_, rfl⟩
      rw [← es1] at J C1 SC eg S2
      have ha1 : a ∈ s1.up.map (·.1) := by rw [es1]; exact ha
      have lu1 : s1.up.length = s.up.length := by rw [es1]
      have lw1 : s1.wt.length + 1 = s.wt.length := by rw [es1]; exact lw.symm
      refine for_it (walk_list (xs := ul.map nV)) (fun i σ H3 => ∃ s' v9 v10, σ = [some (.ref o), some (.ref R), some (.ref L), some (.int (h : Int)), some (.ref A), some (.ref G), some (.ref W), some (.int (a : Int)), some (.ref U), v9, v10] ∧ SvH H H3 A G W s' ∧ SvI os rows h s' ∧ Cls rows left s' ∧ a ∈ s'.up.map (·.1) ∧ H3 U = some (.lst (ul.map nV)) ∧ scanF rows left a (ul.drop i) s' = scanF rows left a ul s1 ∧ s'.wt.length + s1.up.length = s1.wt.length + s'.up.length)
        ⟨s1, _, _, rfl, S2, J, C1, ha1, hU, rfl, rfl⟩ (fun i σ H3 _ z => by obtain ⟨_, _, _, _, _, _, _, _, z, _⟩ := z; exact SqL.of z) ?_ ?_
      · rintro i x σ H3 H4 hi ⟨s', v9, v10, rfl, S3, I3, C3, ha3, hU3, es, lw3⟩ ⟨rfl, gx⟩
        rw [List.getElem?_map] at gx
        obtain ⟨n, gn, rfl⟩ := Option.map_eq_some_iff.mp gx
        have hi2 := (List.getElem?_eq_some_iff.mp gn).1
        have ed : ul.drop i = n :: ul.drop (i + 1) := by rw [List.drop_eq_getElem_cons hi2, (List.getElem?_eq_some_iff.mp gn).2]
        rw [ed] at es
        obtain ⟨u1, u2, u3⟩ := mem_un.mp (hul n (List.mem_of_getElem? gn))
        have hl : n < left.length := by rw [dy.ll]; exact u1
        have gl : (left.map V.int)[n]? = some (.int (left.getD n 0)) := by rw [List.getElem?_map, List.getD_eq_getElem?_getD, List.getElem?_eq_getElem hl]; rfl
        refine ⟨_, rfl, _, rfl, A, (lkA s'.ask n).map nV, rfl, .inl ⟨_, .inl (n : Int), .inl S3.a, rfl, (ask_val _ _).symm⟩, _, rfl, ?_⟩
        by_cases c : n ∈ s'.ask.map (·.1)
        · rw [keys_ask.mpr c]
          refine iteT ⟨s', _, _, rfl, S3, I3, C3, ha3, hU3, ?_, lw3⟩
          rw [← es, scanF, if_pos c]
        have c2 : ((lkA s'.ask n).map nV).isSome = false := by
          cases q : ((lkA s'.ask n).map nV).isSome with
          | false => rfl
          | true => exact absurd (keys_ask.mp q) c
        rw [c2]
        refine iteF ?_
        have la := ad I3
        refine ⟨_, rfl, _, rfl, _, rfl, A, _, rfl, .inl ⟨_, .inl (n : Int), S3.a, rfl, (by unfold askK; rw [List.length_map, sizeLine_eq]; omega), rfl⟩, ?_⟩
        rw [put_ask c]
        have S4 : SvH H (upd H4 A (.dK (askK (s'.ask ++ [(n, a)])))) A G W ⟨s'.ask ++ [(n, a)], s'.up, s'.wt⟩ := ⟨same_put S3.x nA, upd_same, by rw [upd_ne (Ne.symm AG)]; exact S3.g, by rw [upd_ne (Ne.symm AW)]; exact S3.w⟩
        have hU4 : upd H4 A (.dK (askK (s'.ask ++ [(n, a)]))) U = some (.lst (ul.map nV)) := by rw [upd_ne (Ne.symm UA)]; exact hU3
        generalize upd H4 A (.dK (askK (s'.ask ++ [(n, a)]))) = H5 at S4 hU4 ⊢
        have I4 := I3.add c u1 u2 u3 ha3
        refine ⟨_, rfl, _, rfl, L, _, n, _, rfl, rfl, SqL.of (S4.x _ _ hL), atI_nat gl, _, _, rfl, rfl, _, rfl, ite2 (fun h1 => ?_) (fun h1 => ?_)⟩
        · have h1 := of_decide_eq_true h1
          have es2 : scanF rows left a ul s1 = (⟨s'.ask ++ [(n, a)], s'.up, s'.wt⟩, some n) := by rw [← es, scanF, if_neg c, if_pos h1]
          rw [es2] at eg
          have e1 : oneF os h (rows, left) = .inl (handF (s'.ask ++ [(n, a)]) s'.up s'.up.length rows n, left.set n (left.getD n 0 - 1)) := by unfold oneF; rw [← eg]
          obtain ⟨iu, vu, eiu⟩ := I4.mem ha3
          have ok := hand_go I4 iu rows n a s'.up.length vu eiu (List.mem_append_right _ (by simp)) rfl (fun _ _ _ _ _ => rfl) (List.getElem?_eq_some_iff.mp eiu).1
          refine ⟨_, rfl, _, rfl, ⟨L, _, n, _, rfl, rfl, SqL.of (S4.x _ _ hL), gl, _, _, rfl, rfl, L, _, n, n, rfl, rfl, S4.x _ _ hL, Evl.ixN_nat (by rw [List.length_map]; exact hl), ?_⟩⟩
          rw [← List.map_set]
          have AL : A ≠ L := fun z => by rw [← z, nA] at hL; cases hL
          have GL : G ≠ L := fun z => by rw [← z, nG0] at hL; cases hL
          have r5 := (rh.same S4.x).put (o := .lst ((left.set n (left.getD n 0 - 1)).map V.int)) LR nL
          have hA5 : upd H5 L (.lst ((left.set n (left.getD n 0 - 1)).map V.int)) A = some (.dK (askK (s'.ask ++ [(n, a)]))) := by rw [upd_ne AL]; exact S4.a
          have hG5 : upd H5 L (.lst ((left.set n (left.getD n 0 - 1)).map V.int)) G = some (.dK (upK s'.up)) := by rw [upd_ne GL]; exact S4.g
          have hL5 : upd H5 L (.lst ((left.set n (left.getD n 0 - 1)).map V.int)) L = some (.lst ((left.set n (left.getD n 0 - 1)).map V.int)) := upd_same
          have sm5 : Sm (L :: as) H (upd H5 L (.lst ((left.set n (left.getD n 0 - 1)).map V.int))) := (sm_of (S := L :: as) S4.x).trans (sm_wr List.mem_cons_self)
          generalize upd H5 L (.lst ((left.set n (left.getD n 0 - 1)).map V.int)) = H6 at r5 hA5 hG5 hL5 sm5 ⊢
          refine ⟨_, rfl, _, rfl, _, rfl, _, rfl, R, A, G, n, s'.up.length, as, rows, _, _, rfl, r5, hA5, hG5, ok, fun y => Nat.le_trans (lim y) (by decide), fun H7 r7 sm7 => ?_⟩
          exact q1 _ H7 e1 r7 (sm_at sm7 nL hL5) (sm5.trans (sm_mono (fun x hx => List.mem_cons_of_mem _ hx) sm7))
        · have h1 : ¬ 0 < left.getD n 0 := fun z => h1 (decide_eq_true z)
          refine ⟨_, rfl, _, rfl, R, n, as, rows, rfl, rh.same S4.x, by omega, fun H6 Vv s6 nVv hV => ?_⟩
          have VA := ne_of_none S4.a nVv
          have VG := ne_of_none S4.g nVv
          have VW := ne_of_none S4.w nVv
          have S6 := S4.same s6
          have hU6 := s6 _ _ hU4
          obtain ⟨sA, esA⟩ : ∃ sA : Sv, sA = ⟨s'.ask ++ [(n, a)], s'.up, s'.wt⟩ := ⟨_, rfl⟩
          rw [← esA] at S6 I4
          have hna : (n, a) ∈ sA.ask := by rw [esA]; exact List.mem_append_right _ (by simp)
          have lA1 : sA.wt.length = s'.wt.length := by rw [esA]
          have lA2 : sA.up.length = s'.up.length := by rw [esA]
          have es3 : scanF rows left a (ul.drop (i + 1)) ((hrF rows n).foldl (upStep n) sA) = scanF rows left a ul s1 := by rw [← es, scanF, if_neg c, if_neg h1, esA]
          have UP := fun j => ups (l := (hrF rows n).take j) I4 hna fun x hx => mem_hr.mp (List.mem_of_mem_take hx)
          refine ⟨Vv, rfl, ⟨_, SqL.of hV⟩, ?_⟩
          refine for_it (walk_list (xs := (hrF rows n).map nV)) (fun j σ H7 => ∃ v10, σ = [some (.ref o), some (.ref R), some (.ref L), some (.int (h : Int)), some (.ref A), some (.ref G), some (.ref W), some (.int (a : Int)), some (.ref U), some (.int (n : Int)), v10] ∧ SvH H H7 A G W (((hrF rows n).take j).foldl (upStep n) sA) ∧ H7 Vv = some (.lst ((hrF rows n).map nV)) ∧ H7 U = some (.lst (ul.map nV)))
            ⟨_, rfl, S6, hV, hU6⟩ (fun j σ H7 _ z => by obtain ⟨_, _, _, z, _⟩ := z; exact SqL.of z) ?_ ?_
          · rintro j x σ H7 H8 hj ⟨v10, rfl, S7, hV7, hU7⟩ ⟨rfl, gx⟩
            rw [List.getElem?_map] at gx
            obtain ⟨y, gy, rfl⟩ := Option.map_eq_some_iff.mp gx
            obtain ⟨p1, p2, p3, p4, p5, p6, p7⟩ := UP j
            have eF : ((hrF rows n).take (j + 1)).foldl (upStep n) sA = upStep n (((hrF rows n).take j).foldl (upStep n) sA) y := by rw [List.take_add_one, gy, Option.toList_some, List.foldl_append]; rfl
            rw [eF]
            generalize ((hrF rows n).take j).foldl (upStep n) sA = sj at S7 p1 p2 p3 p4 p5 p6 p7 ⊢
            have lj := ud p1
            refine ⟨_, rfl, _, rfl, G, (lkA sj.up y).map opN, rfl, .inl ⟨_, .inl (y : Int), .inl S7.g, rfl, (up_val _ _).symm⟩, _, rfl, ?_⟩
            by_cases d : y ∈ sj.up.map (·.1)
            · rw [keys_up.mpr d]
              refine iteF ⟨_, rfl, ?_, hV7, hU7⟩
              unfold upStep
              rw [if_pos d]; exact S7
            have d2 : ((lkA sj.up y).map opN).isSome = false := by
              cases q : ((lkA sj.up y).map opN).isSome with
              | false => rfl
              | true => exact absurd (keys_up.mp q) d
            rw [d2]
            refine iteT ?_
            refine ⟨_, rfl, _, rfl, _, rfl, G, _, rfl, .inl ⟨_, .inl (y : Int), S7.g, rfl, (by unfold upK; rw [List.length_map, sizeLine_eq]; omega), rfl⟩, ?_⟩
            rw [put_up d]
            have hw8 : upd H8 G (.dK (upK (sj.up ++ [(y, some n)]))) W = some (.lst (sj.wt.map nV)) := by rw [upd_ne (Ne.symm GW)]; exact S7.w
            refine ⟨_, rfl, .inl ⟨rfl, _, SqL.of hw8⟩, _, rfl, W, _, _, rfl, rfl, hw8, (by rw [List.length_map, sizeLine_eq]; omega), ?_⟩
            have eU : upStep n sj y = ⟨sj.ask, sj.up ++ [(y, some n)], sj.wt ++ [y]⟩ := by unfold upStep; rw [if_neg d]
            rw [eU]
            refine ⟨_, rfl, ⟨same_put (same_put S7.x nG0) nW0, by rw [upd_ne AW, upd_ne AG]; exact S7.a, by rw [upd_ne GW]; exact upd_same, by rw [upd_same, List.map_append]; rfl⟩, by rw [upd_ne (Ne.symm VW), upd_ne (Ne.symm VG)]; exact hV7, by rw [upd_ne (Ne.symm UW), upd_ne (Ne.symm UG)]; exact hU7⟩
          · rintro σ H7 ⟨v10, rfl, S7, hV7, hU7⟩
            rw [List.length_map, List.take_length] at S7
            obtain ⟨p1, p2, p3, p4, p5, p6, p7⟩ := UP (hrF rows n).length
            rw [List.take_length] at p1 p2 p3 p4 p5 p6 p7
            refine ⟨_, _, _, rfl, S7, p1, fun x hx => ?_, p3 a (.inl (by rw [esA]; exact ha3)), hU7, es3, by omega⟩
            rw [p2, esA] at hx
            have hx : x ∈ (s'.ask ++ [(n, a)]).map (·.1) := hx
            rw [List.map_append] at hx
            rcases List.mem_append.mp hx with z | z
            · exact ⟨(C3 x z).1, fun y hy => p3 y (.inl (by rw [esA]; exact (C3 x z).2 y hy))⟩
            · have z : x = n := List.mem_singleton.mp z
              rw [z]
              exact ⟨by omega, fun y hy => p3 y (.inr hy)⟩
      · rintro σ H3 ⟨s', v9, v10, rfl, S3, I3, C3, ha3, hU3, es, lw3⟩
        rw [List.length_map, List.drop_length] at es
        have es2 : scanF rows left a ul s1 = (s', none) := by rw [← es]; rfl
        rw [es2] at eg SC
        obtain ⟨_, _, _, _, _, _, k7, k8, _⟩ := SC
        dsimp only at k7 k8 eg
        have u3 := ud I3
        exact ⟨s', _, _, _, _, rfl, S3, I3, C3, by omega, eg, by omega⟩

end
end Pot

namespace Pot
open PySem PySem.Spec PyProof.Rows L2
section
variable {P : Program} {w : World} {K : PySem.W.Frag} {mg : Str → Option Value} {base : Heap}
abbrev s_served : Stmt := topS 1
def n_served : List Str := ["offers", "wants", "rows", "left", "hour", "many", "want", "lack", "first", "last", "gathers", "row"]
theorem sc_served : FnScope n_served ["offers", "wants"] (defScope s_served) := ⟨rfl, rfl, rfl, by decide +kernel, rfl, by decide +kernel, by decide +kernel⟩
theorem same_sm {H H1 H2 : Hp} {S : List Addr} (s : Same H H1) (sm : Sm S H1 H2) (f : ∀ x ∈ S, H x = none) : Same H H2 := fun b o e => sm_at sm (fun hb => by rw [f b hb] at e; cases e) (s b o e)
theorem RowsH.snoc {H : Hp} {R x : Addr} {as : List Addr} {rows : List (List Nat)} (r : RowsH H R as rows) (nx : H x = none) : RowsH (upd (upd H x (.lst [])) R (.lst (as.map V.ref ++ [.ref x]))) R (as ++ [x]) (rows ++ [[]]) := by
  have xR : x ≠ R := fun z => by rw [z, r.r] at nx; cases nx
  have xa : x ∉ as := fun z => by
    obtain ⟨i, hi, ei⟩ := List.mem_iff_getElem.mp z
    have := r.a i x (by rw [List.getElem?_eq_getElem hi, ei])
    rw [nx] at this; cases this
  refine ⟨by rw [upd_same, List.map_append]; rfl, by rw [List.length_append, List.length_append, r.l]; rfl, fun i y e => ?_, ?_, fun z => ?_⟩
  · rw [snoc_getD]
    by_cases lt : i < as.length
    · rw [List.getElem?_append_left lt] at e
      have m := List.mem_of_getElem? e
      rw [upd_ne (fun z => r.nr (by rw [← z]; exact m)), upd_ne (fun z => xa (by rw [← z]; exact m))]
      exact r.a i y e
    · rw [List.getElem?_append_right (by omega)] at e
      have ey : y = x := List.mem_singleton.mp (List.mem_of_getElem? e)
      rw [ey, upd_ne xR, upd_same, List.getD_eq_getElem?_getD, List.getElem?_eq_none (by rw [← r.l]; omega)]; rfl
  · exact List.nodup_append.mpr ⟨r.nd, by simp, fun a ha b hb e => xa (by rw [List.mem_singleton.mp hb] at e; rw [← e]; exact ha)⟩
  · rcases List.mem_append.mp z with z | z
    · exact r.nr z
    · exact xR (List.mem_singleton.mp z).symm
theorem row_short {os : List Off} {rows : List (List Nat)} (RI : RowsI os rows) (h : Nat) : (rows.getD h []).length ≤ os.length := by
  have h1 : (rows.getD h []).length ≤ (List.range os.length).length := List.Nodup.length_le_of_subset (RI h).1 fun x hx => List.mem_range.mpr ((RI h).2 x hx).1
  rwa [List.length_range] at h1
def spServed (K : PySem.W.Frag) : Sp := fun vs H Q _ => ∃ (o c : Addr) (ox : List V) (os : List Off) (ws : List Int), vs = [.ref o, .ref c] ∧ SqL K H o ox ∧ DpAll K H ox (os.map offD) ∧ SqL K H c (ws.map V.int) ∧ os.length ≤ 100 ∧ ws.length ≤ 60 ∧ (∀ w ∈ ws, 0 ≤ w ∧ w ≤ 60) ∧ (∀ o ∈ os, 0 ≤ o.2.2) ∧
  (∀ (rows : List (List Nat)) (H' : Hp) (t R : Addr) (as : List Addr), servedF os ws = .inl rows → Same H H' → H' t = some (.tup [.ref R, .non]) → H R = none → RowsH H' R as (rows.map natSort) → (∀ x ∈ as, H x = none) → Q (.ref t) H') ∧
  (∀ (h : Nat) (S : List Nat) (H' : Hp) (t u L : Addr), servedF os ws = .inr (h, S) → Same H H' → H' t = some (.tup [.non, .ref u]) → H' u = some (.tup [.int (h : Int), .ref L]) → H L = none → H' L = some (.lst ((natSort S).map nV)) → Q (.ref t) H')
set_option maxHeartbeats 2000000 in
theorem ok_served {f : Addr} {fd : FuncData} {k : Nat} (F : Fun K "served" "served" s_served f fd) (T : Txt mg) (c_serve_one : Cl P w K mg base (k + 2) "serve_one" (spServe K)) : FnOk P w K mg base CX0 (k + 3) f fd ["offers", "wants"] (spServed K) := by
  refine F.ok sc_served (fun vs H Q E h => ?_) (fun cdv A outer s H vs Q E hr h => ?_)
  · obtain ⟨o, c, ox, os, ws, rfl, _⟩ := h
    rfl
  · obtain ⟨o, c, ox, os, ws, rfl, hO, dO, hC, lo, lw, wn, gn, q1, q2⟩ := h
    have nd := sc_served.nd
    /- 0 offers, 1 wants, 2 rows, 3 left, 4 hour, 5 many, 6 want, 7 lack, 8 first, 9 last, 10 gathers, 11 row -/
    refine ⟨_, (pss_cons (ps_set (i := 2) nd rfl (.inl rfl) (pe_lst pa_nil))
      (pss_cons (ps_setLc (i := 3) (own := [("first", 8), ("last", 9), ("gathers", 10)]) rfl nd rfl rfl (sw_true rfl rfl rfl (by decide +kernel)) (ki_list (K := K) (pv 0)) (blkOk_by (N := n_served) (sc := defScope s_served) (by decide +kernel)) (fun _ _ _ _ _ => (kg_tup (K := K) (n := 3) (pgs_cons (pg_name (i := 8) nd rfl (.inl rfl)) (pgs_cons (pg_name (i := 9) nd rfl (.inl rfl)) (pgs_cons (pg_name (i := 10) nd rfl (.inl rfl)) pgs_nil))))) (fun _ _ _ _ _ => pts_nil) (fun _ _ _ _ _ => (pv 10)))
      (pss_cons (ps_for PassesOwn.never rfl (ki_enum (K := K) (by rfl) T.enumerate (pa_cons (pv 1) pa_nil)) (kg_tup (K := K) (n := 2) (pgs_cons (pg_name (i := 4) nd rfl (.inl rfl)) (pgs_cons (pg_name (i := 5) nd rfl (.inl rfl)) pgs_nil)))
          (pss_cons (ps_expr (pe_bm PySem.F.plainAttrs_list PySem.F.slot_list_append PySem.F.type_list_append mt_append (pv 2) (pa_cons (pe_lst pa_nil) pa_nil)))
          (pss_one (ps_for PassesOwn.never rfl (pi_range1 (by rfl) T.range (pa_cons (pv 5) pa_nil)) (pg_name (i := 6) nd rfl (.inl rfl))
              (pss_cons (ps_set (i := 7) nd rfl (.inl rfl) (pe_cl c_serve_one hr (by omega) (by rfl) (pa_cons (pv 0) (pa_cons (pv 2) (pa_cons (pv 3) (pa_cons (pv 4) pa_nil))))))
              (pss_one (ps_if (pt_cmpR op_notN (pv 7) pe_non (nomark _))
                  (pss_one (ps_ret (pe_tup (pa_cons pe_non (pa_cons (pe_tup (pa_cons (pv 4) (pa_cons (pv 7) pa_nil))) pa_nil)))))
                  pss_nil)))))))
      (pss_one (ps_ret (pe_tup (pa_cons (pe_lc (own := [("row", 11)]) rfl nd (ki_list (K := K) (pv 2)) (blkOk_by (N := n_served) (sc := defScope s_served) (by decide +kernel)) (fun _ _ _ _ _ => (pg_name (i := 11) nd rfl (.inl rfl))) (fun _ _ _ _ _ => pts_nil) (fun _ _ _ _ _ => (pe_callB (kc_sorted (K := K)) (by rfl) T.sorted (by decide +kernel) (pa_cons (pv 11) pa_nil)))) (pa_cons pe_non pa_nil)))))))), ?_⟩
    refine ⟨Nat.zero_le _, fun R nR => ?_⟩
    have sR := same_upd (o := .lst []) nR
    have hR : upd H R (.lst []) R = some (.lst []) := upd_same
    have hO1 := sR.seq hO
    have dO1 := dpAll_same sR dO
    generalize upd H R (.lst []) = H1 at sR hR hO1 dO1 ⊢
    refine ⟨_, rfl, o, rfl, ⟨_, hO1⟩, fun L nL => ?_⟩
    have lx : ox.length = os.length := dpAll_map_len dO
    refine lc_it (walk_list (xs := ox)) (PvL H1 L fun i => ((os.take i).map (·.2.2)).map V.int) (pv_start nL rfl) (fun i Hx _ z => z.1.seq hO1) ?_ ?_
    · rintro i y H4 H5 hi p ⟨rfl, gx⟩
      obtain ⟨b, rfl, hb, hi2⟩ := of_at (dpAll_same p.1 dO1) gx
      have gp : os[i]? = some (os.getD i o0) := by rw [List.getD_eq_getElem?_getD, List.getElem?_eq_getElem hi2]; rfl
      generalize os.getD i o0 = pr at hb gp
      refine ⟨b, _, rfl, hb, rfl, _, _, rfl, _, _, rfl, _, _, rfl, rfl, rfl, tYes_at ?_⟩
      rw [if_pos rfl]
      refine ⟨_, rfl, pv_put nL p (Same.refl _) (by rw [List.take_add_one, gp, List.map_append, List.map_append]; rfl) ?_⟩
      rw [List.length_map, List.length_map, List.length_take, sizeLine_eq]; omega
    intro H2 p
    obtain ⟨s2, hL⟩ := pv_end p (show _ = (os.map (·.2.2)).map V.int by rw [lx, List.take_length])
    clear p
    have LR : L ≠ R := (ne_of_none hR nL).symm
    have nL0 := same_free sR nL
    have sH := sR.trans s2
    have hR := s2 _ _ hR
    have est : (((L2.start n_served [V.ref o, V.ref c]).set 2 (some (V.ref R))).set 3 (some (V.ref L))) = [some (.ref o), some (.ref c), some (.ref R), some (.ref L), none, none, none, none, none, none, none, none] := rfl
    show tSeq _ _ _ (((L2.start n_served [V.ref o, V.ref c]).set 2 (some (V.ref R))).set 3 (some (V.ref L))) H2
    rw [est]
    have day0 : DyI os ([], os.map (·.2.2)) := by
      have g : ∀ n, (os.map (·.2.2)).getD n 0 = gaF os n := fun n => by
        unfold gaF
        rw [List.getD_eq_getElem?_getD, List.getD_eq_getElem?_getD, List.getElem?_map]
        cases os[n]? <;> rfl
      refine ⟨fun h => ⟨by simp, fun n hn => by simp at hn⟩, List.length_map _, fun n => ?_, fun n hn => ?_⟩
      · show 0 ≤ (os.map (·.2.2)).getD n 0
        rw [g]
        unfold gaF
        rw [List.getD_eq_getElem?_getD]
        cases e : os[n]? with
        | none => exact Int.le_refl 0
        | some o => exact gn o (List.mem_of_getElem? e)
      · show (0 : Int) = gaF os n - (os.map (·.2.2)).getD n 0
        rw [g]; omega
    refine ⟨_, rfl, c, _, rfl, sH.seq hC, ?_⟩
    refine for_it (walk_enum (xs := ws.map V.int)) (fun i σ Hx => ∃ v4 v5 v6 v7 as d, σ = [some (.ref o), some (.ref c), some (.ref R), some (.ref L), v4, v5, v6, v7, none, none, none, none] ∧ Same H Hx ∧ RowsH Hx R as d.1 ∧ Hx L = some (.lst (d.2.map V.int)) ∧ L ∉ as ∧ (∀ x ∈ as, H x = none) ∧ DyI os d ∧ d.1.length = i ∧ dayF os (ws.drop i) i d = servedF os ws)
      ⟨_, _, _, _, [], ([], os.map (·.2.2)), rfl, sH, ⟨hR, rfl, fun i x e => by simp at e, by simp, by simp⟩, hL, by simp, (fun x hx => (List.not_mem_nil hx).elim), day0, rfl, rfl⟩ (fun i σ Hx _ z => by obtain ⟨_, _, _, _, _, _, _, z, _⟩ := z; exact z.seq hC) ?_ ?_
    · rintro i x σ Hx Hy hi ⟨v4, v5, v6, v7, as, d, rfl, sx, rx, lxx, nLa, fas, dy, ld, ed⟩ ⟨tt, x1, x2, rfl, nt, rfl, g1, g2⟩
      cases g1
      replace g2 : (ws.map V.int)[i]? = some x2 := g2
      rw [List.getElem?_map] at g2
      obtain ⟨wn1, gw, rfl⟩ := Option.map_eq_some_iff.mp g2
      obtain ⟨w0, w199⟩ := wn wn1 (List.mem_of_getElem? gw)
      have hi2 := (List.getElem?_eq_some_iff.mp gw).1
      have st := same_upd (o := .tup [.int (i : Nat), .int wn1]) nt
      have sx := sx.trans st
      have rx := rx.same st
      have lxx := st _ _ lxx
      have htt : upd Hx tt (.tup [.int (i : Nat), .int wn1]) tt = some (.tup [.int (i : Nat), .int wn1]) := upd_same
      generalize upd Hx tt (.tup [.int (i : Nat), .int wn1]) = Hz at sx rx lxx htt ⊢
      refine ⟨tt, _, rfl, .inl (.inl htt), rfl, _, _, rfl, _, _, rfl, rfl, ?_⟩
      clear htt st
      refine ⟨_, rfl, .inl ⟨rfl, _, SqL.of rx.r⟩, Nat.zero_le _, fun a na => ?_⟩
      have sa := same_upd (o := .lst []) na
      have ra := rx.snoc na
      have na0 := same_free sx na
      have aL : a ≠ L := (ne_of_none lxx na).symm
      refine ⟨R, _, _, rfl, rfl, sa _ _ rx.r, (by rw [List.length_map, rx.l, ld, sizeLine_eq]; omega), ?_⟩
      have s3 : Same H (upd (upd Hz a (.lst [])) R (.lst (as.map V.ref ++ [.ref a]))) := same_put (sx.trans sa) nR
      have hL3 : upd (upd Hz a (.lst [])) R (.lst (as.map V.ref ++ [.ref a])) L = some (.lst (d.2.map V.int)) := by rw [upd_ne LR]; exact sa _ _ lxx
      have nLa3 : L ∉ as ++ [a] := fun z => (List.mem_append.mp z).elim nLa fun z => aL (List.mem_singleton.mp z).symm
      have fas3 : ∀ x ∈ as ++ [a], H x = none := fun x hx => (List.mem_append.mp hx).elim (fas x) fun z => by rw [List.mem_singleton.mp z]; exact na0
      generalize upd (upd Hz a (.lst [])) R (.lst (as.map V.ref ++ [.ref a])) = H3 at ra s3 hL3 ⊢
      generalize as ++ [a] = as3 at ra nLa3 fas3
      have edr : ws.drop i = wn1 :: ws.drop (i + 1) := by rw [List.drop_eq_getElem_cons hi2, (List.getElem?_eq_some_iff.mp gw).2]
      rw [edr] at ed
      have dy3 := dy.snoc
      have l3 : (d.1 ++ [[]]).length = i + 1 := by rw [List.length_append, ld]; rfl
      obtain ⟨k', ek⟩ : ∃ k', wn1.toNat = k' := ⟨_, rfl⟩
      have eday : dayF os (wn1 :: ws.drop (i + 1)) i d = (match manyF os i k' (d.1 ++ [[]], d.2) with | .inl d' => dayF os (ws.drop (i + 1)) (i + 1) d' | .inr S => .inr (i, S)) := by rw [dayF, ek] <;> rfl
      rw [eday] at ed
      refine ⟨_, rfl, _, rfl, (by omega), (by omega), ?_⟩
      rw [ek]
      refine for_it walk_range (fun j σ H4 => ∃ v6 v7 d', σ = [some (.ref o), some (.ref c), some (.ref R), some (.ref L), some (.int (i : Int)), some (.int wn1), v6, v7, none, none, none, none] ∧ Same H H4 ∧ RowsH H4 R as3 d'.1 ∧ H4 L = some (.lst (d'.2.map V.int)) ∧ DyI os d' ∧ d'.1.length = i + 1 ∧ manyF os i (k' - j) d' = manyF os i k' (d.1 ++ [[]], d.2))
        ⟨_, _, (d.1 ++ [[]], d.2), rfl, s3, ra, hL3, dy3, l3, by rw [Nat.sub_zero]⟩ (fun _ _ _ _ _ => trivial) ?_ ?_
      · rintro j x σ H4 H5 hj ⟨v6, v7, d', rfl, s4, r4, hL4, dy4, l4, em⟩ ⟨rfl, rfl⟩
        have hj2 : j < k' := hj
        have ej : k' - j = (k' - (j + 1)) + 1 := by omega
        rw [ej] at em
        refine ⟨_, rfl, _, rfl, _, rfl, _, rfl, o, R, L, i, ox, os, as3, d'.1, d'.2, rfl, s4.seq hO, dpAll_same s4 dO, by omega, r4, hL4, nLa3, LR, dy4, by omega, by omega, fun x => Nat.le_trans (row_short dy4.ri x) (by omega), fun dn H6 e1 r6 hL6 sm6 => ?_, fun S H6 pL e1 s6 nP hP => ?_⟩
        · refine ⟨_, rfl, rfl, _, rfl, iteNS rfl ?_⟩
          obtain ⟨D1, l1, _⟩ := (one_ok dy4 (show i < d'.1.length by omega)).1 dn e1
          refine ⟨_, _, dn, rfl, same_sm s4 sm6 (fun x hx => (List.mem_cons.mp hx).elim (fun z => by rw [z]; exact nL0) (fas3 x)), r6, hL6, D1, l1.trans l4, ?_⟩
          rw [← em, manyF, e1]
        · refine ⟨_, rfl, rfl, _, rfl, iteNN (fun z => by cases z) ?_⟩
          have em2 : manyF os i k' (d.1 ++ [[]], d.2) = .inr S := by rw [← em, manyF, e1]
          rw [em2] at ed
          have s6' := s4.trans s6
          refine ⟨_, rfl, _, rfl, (by show 2 ≤ sizeLine; decide), fun u nu => ⟨(by show 2 ≤ sizeLine; decide), fun t nt2 => ?_⟩⟩
          have su := same_upd (o := .tup [.int (i : Int), .ref pL]) nu
          have st2 := same_upd (o := .tup [.non, .ref u]) nt2
          exact q2 i S _ t u pL ed.symm ((s6'.trans su).trans st2) upd_same (st2 _ _ upd_same) (same_free s4 nP) (st2 _ _ (su _ _ hP))
      · rintro σ H4 ⟨v6, v7, d', rfl, s4, r4, hL4, dy4, l4, em⟩
        rw [Nat.sub_self] at em
        rw [← em] at ed
        exact ⟨_, _, _, _, as3, d', rfl, s4, r4, hL4, nLa3, fas3, dy4, l4, ed⟩
    · rintro σ Hx ⟨v4, v5, v6, v7, as, d, rfl, sx, rx, lxx, nLa, fas, dy, ld, ed⟩
      rw [List.length_map] at ed ld
      rw [List.drop_length] at ed
      have ed : servedF os ws = .inl d.1 := ed.symm
      refine ⟨_, rfl, R, rfl, ⟨_, SqL.of rx.r⟩, fun R2 nR2 => ?_⟩
      have nR20 := same_free sx nR2
      refine lc_it (walk_list (xs := as.map V.ref)) (fun j Hy => Same Hx Hy ∧ ∃ as2 : List Addr, RowsH Hy R2 as2 ((d.1.take j).map natSort) ∧ (∀ x ∈ as2, Hx x = none) ∧ Hy R2 = some (.lst (as2.map V.ref))) ⟨same_upd nR2, [], ⟨upd_same, rfl, fun i x e => by simp at e, by simp, by simp⟩, (fun x hx => (List.not_mem_nil hx).elim), upd_same⟩ (fun j Hy _ z => SqL.of (z.1 _ _ rx.r)) ?_ ?_
      · rintro j y Hy Hz hj ⟨sy, as2, r2, f2, hR2⟩ ⟨rfl, gy⟩
        rw [List.getElem?_map] at gy
        obtain ⟨ya, gya, rfl⟩ := Option.map_eq_some_iff.mp gy
        have hj2 : j < d.1.length := by rw [← rx.l]; exact (List.getElem?_eq_some_iff.mp gya).1
        have hya := sy _ _ (rx.a j ya gya)
        have er : (d.1.getD j []).map nV = ((d.1.getD j []).map fun n : Nat => (n : Int)).map V.int := by rw [List.map_map]; rfl
        have lr : (d.1.getD j []).length ≤ 60 := by
          have O := (served_ok (fun z hz => (wn z hz).1) gn).1 _ ed
          have hj3 : j < ws.length := by rw [← O.len]; exact hj2
          have h1 := O.full j hj3
          have h2 := (wn _ (List.mem_of_getElem? (List.getElem?_eq_getElem hj3))).2
          have e : ws.getD j 0 = ws[j] := by rw [List.getD_eq_getElem?_getD, List.getElem?_eq_getElem hj3]; rfl
          rw [e] at h1
          omega
        refine ⟨rfl, tYes_at ?_⟩
        rw [if_pos rfl]
        refine ⟨_, rfl, ya, (d.1.getD j []).map (fun n : Nat => (n : Int)), rfl, SqL.of (by rw [hya, er]), (by rw [List.length_map]; omega), fun ns pz pm sd npz => ?_⟩
        have spz := same_upd (o := .lst (ns.map V.int)) npz
        have en := natSort_of pm sd
        have pR2 : pz ≠ R2 := (ne_of_none hR2 npz).symm
        have pa2 : pz ∉ as2 := fun z => by
          obtain ⟨i, hi, ei⟩ := List.mem_iff_getElem.mp z
          have := r2.a i pz (by rw [List.getElem?_eq_getElem hi, ei])
          rw [npz] at this; cases this
        have l2 : as2.length = j := by rw [r2.l, List.length_map, List.length_take]; omega
        have etk : (d.1.take (j + 1)).map natSort = (d.1.take j).map natSort ++ [natSort (d.1.getD j [])] := by
          have : d.1[j]? = some (d.1.getD j []) := by rw [List.getD_eq_getElem?_getD, List.getElem?_eq_getElem hj2]; rfl
          rw [List.take_add_one, this, List.map_append]; rfl
        refine ⟨as2.map V.ref, spz _ _ hR2, (by rw [List.length_map, l2, sizeLine_eq]; omega), same_put (sy.trans spz) nR2, as2 ++ [pz], ⟨by rw [upd_same, List.map_append]; rfl, by rw [etk, List.length_append, List.length_append, r2.l]; rfl, fun i x ei => ?_, ?_, fun z => ?_⟩, fun x hx => ?_, by rw [upd_same, List.map_append]; rfl⟩
        · rw [etk]
          have lm : ((d.1.take j).map natSort).length = j := by rw [← r2.l, l2]
          by_cases lt : i < as2.length
          · rw [List.getElem?_append_left lt] at ei
            have m := List.mem_of_getElem? ei
            rw [upd_ne (fun z => r2.nr (by rw [← z]; exact m)), spz _ _ (r2.a i x ei)]
            rw [List.getD_eq_getElem?_getD, List.getD_eq_getElem?_getD, List.getElem?_append_left (by omega)]
          · have ei2 : i = j := by
              have := (List.getElem?_eq_some_iff.mp ei).1
              rw [List.length_append] at this
              have : i < as2.length + 1 := this
              omega
            rw [List.getElem?_append_right (by omega)] at ei
            have ex : x = pz := List.mem_singleton.mp (List.mem_of_getElem? ei)
            have e9 : ((d.1.take j).map natSort ++ [natSort (d.1.getD j [])]).getD i [] = natSort (d.1.getD j []) := by
              rw [List.getD_eq_getElem?_getD, List.getElem?_append_right (by omega), lm, ei2, Nat.sub_self]; rfl
            rw [ex, upd_ne pR2, upd_same, en, e9]
        · exact List.nodup_append.mpr ⟨r2.nd, by simp, fun a ha b hb e => pa2 (by rw [List.mem_singleton.mp hb] at e; rw [← e]; exact ha)⟩
        · rcases List.mem_append.mp z with z | z
          · exact r2.nr z
          · exact pR2 (List.mem_singleton.mp z).symm
        · rcases List.mem_append.mp hx with z | z
          · exact f2 x z
          · rw [List.mem_singleton.mp z]; exact same_free sy npz
      · rintro Hy ⟨sy, as2, r2, f2, hR2⟩
        rw [List.length_map, rx.l, List.take_length] at r2
        refine ⟨(by show 2 ≤ sizeLine; decide), fun t nt => ?_⟩
        have st := same_upd (o := .tup [.ref R2, .non]) nt
        exact q1 d.1 _ t R2 as2 ed ((sx.trans sy).trans st) upd_same nR20 (r2.same st) (fun x hx => same_free sx (f2 x hx))

end
end Pot

namespace Pot
open PySem PySem.Spec PyProof.Rows L2
section
variable {P : Program} {w : World} {K : PySem.W.Frag} {mg : Str → Option Value} {base : Heap}
def spNum (K : PySem.W.Frag) : Sp := fun vs H Q _ => ∃ (x : V) (d : PyData) (lo hi : Int), vs = [x, .int lo, .int hi] ∧ Dp K H x d ∧ Q (.bl (numD lo hi d)) H
def intsD : PyData → List Int
  | .list ds => ds.map toI
  | _ => []
theorem want_at {ws : List Int} {h : Int} (h0 : 0 ≤ h) (h1 : h ≤ (ws.length : Nat) - 1) : atI (ws.map V.int) h = some (.int (ws.getD h.toNat 0)) := by
  obtain ⟨n, rfl⟩ : ∃ n : Nat, h = (n : Int) := ⟨h.toNat, by omega⟩
  have hn : n < ws.length := by omega
  rw [Int.toNat_natCast, List.getD_eq_getElem?_getD, List.getElem?_eq_getElem hn]
  exact atI_nat (by rw [List.getElem?_map, List.getElem?_eq_getElem hn]; rfl)
theorem ris_list {lo hi : Int} {d : PyData} (h : risD lo hi d = true) : ∃ ds, d = .list ds ∧ ds.all (numD lo hi) = true := by
  cases d with
  | list ds => exact ⟨ds, rfl, (Bool.and_eq_true_iff.mp h).1⟩
  | _ => cases h

theorem off_dp {H : Hp} {v : V} {o : Off} (h : Dp K H v (offD o)) : ∃ a, v = .ref a ∧ SqT K H a [.int o.1, .int o.2.1, .int o.2.2] := by
  cases h with
  | tup h a =>
    cases a with
    | cons h1 t => cases t with
      | cons h2 t => cases t with
        | cons h3 t => cases t; cases h1; cases h2; cases h3; exact ⟨_, rfl, h⟩
def inO (o : Off) (h : Int) : Bool := decide (o.1 ≤ h) && decide (h < o.2.1)
def mo1 (ns : List Int) (o : Off) : Int := if (((ns.filter (inO o)).length : Nat) : Int) < o.2.2 then (((ns.filter (inO o)).length : Nat) : Int) else o.2.2
def moF (os : List Off) (ns : List Int) : Int := (os.map (mo1 ns)).sum
theorem filt_take {ns : List Int} {o : Off} {j : Nat} {n : Int} (g : ns[j]? = some n) : ((ns.take (j + 1)).filter (inO o)).map V.int = if inO o n = true then ((ns.take j).filter (inO o)).map V.int ++ [V.int n] else ((ns.take j).filter (inO o)).map V.int := by
  rw [List.take_add_one, g, List.filter_append, List.map_append]
  by_cases h : inO o n = true
  · rw [if_pos h]; simp [h]
  · rw [if_neg h]; simp [h]
theorem filt_len {ns : List Int} {o : Off} {j : Nat} (h : ns.length ≤ 4000) : (((ns.take j).filter (inO o)).map V.int).length < sizeLine := by
  rw [List.length_map, sizeLine_eq]
  have h1 := List.length_filter_le (inO o) (ns.take j)
  have h2 := List.length_take_le' j ns
  omega
def spMost (K : PySem.W.Frag) : Sp := fun vs H Q _ => ∃ (a c : Addr) (xs : List V) (os : List Off) (ns : List Int), vs = [.ref a, .ref c] ∧ SqL K H a xs ∧ DpAll K H xs (os.map offD) ∧ os.length ≤ 1000 ∧ SqL K H c (ns.map V.int) ∧ ns.length ≤ 4000 ∧ ∀ H', Same H H' → Q (.int (moF os ns)) H'
def rowD (n : Int) : PyData → Bool
  | .tuple ds => decide ((ds.length : Int) = n)
  | _ => false
def wantF (ws : List Int) (ns : List Int) : Int := (ns.map fun h => ws.getD h.toNat 0).sum
def lackD (os : List Off) (ws : List Int) : PyData → Bool
  | .tuple [a, b] => numD 0 (ws.length - 1) a && (risD 0 (toI a) b && decide (moF os (intsD b) < wantF ws (intsD b)))
  | _ => false
theorem row2 {d : PyData} (h : rowD 2 d = true) : ∃ a b, d = .tuple [a, b] := by
  cases d with
  | tuple ds =>
    have e : ((ds.length : Nat) : Int) = 2 := of_decide_eq_true h
    match ds, e with
    | [a, b], _ => exact ⟨a, b, rfl⟩
    | [], e => simp at e
    | [_], e => simp at e
    | _ :: _ :: _ :: _, e => simp at e; omega
  | _ => cases h
theorem row2' {os : List Off} {ws : List Int} {d : PyData} (h : ¬ rowD 2 d = true) : lackD os ws d = false := by
  unfold lackD
  split
  · exact absurd rfl h
  · rfl
theorem two_dp {H : Hp} {x : V} {a b : PyData} (h : Dp K H x (.tuple [a, b])) : ∃ t va vb, x = .ref t ∧ SqT K H t [va, vb] ∧ Dp K H va a ∧ Dp K H vb b := by
  cases h with
  | tup h t => cases t with
    | cons h1 t => cases t with
      | cons h2 t => cases t; exact ⟨_, _, _, rfl, h, h1, h2⟩
def spLack (K : PySem.W.Frag) : Sp := fun vs H Q _ => ∃ (a c : Addr) (xs : List V) (os : List Off) (ws : List Int) (x : V) (d : PyData), vs = [.ref a, .ref c, x] ∧ SqL K H a xs ∧ DpAll K H xs (os.map offD) ∧ os.length ≤ 1000 ∧ SqL K H c (ws.map V.int) ∧ ws.length ≤ 60 ∧ Dp K H x d ∧ widAll.wid d ≤ 4000 ∧ ∀ H', Same H H' → Q (.bl (lackD os ws d)) H'
def serveD (os : List Off) (w h : Int) (r : PyData) : Bool := risD 0 (((os.length : Nat) : Int) - 1) r && (decide ((((intsD r).length : Nat) : Int) = w) && (intsD r).all fun n => inO (os.getD n.toNat o0) h)
/-- in how many rows a number stands -/
def oft (rs : List PyData) (j : Int) : Nat := (rs.filter fun r => decide (j ∈ intsD r)).length
def rowsD (os : List Off) (ws : List Int) : PyData → Bool
  | .list rs => decide (((rs.length : Nat) : Int) = ((ws.length : Nat) : Int)) && (((List.range rs.length).map fun i => serveD os (ws.getD i 0) ((i : Nat) : Int) (rs.getD i .none)).all id && ((List.range os.length).map fun j => decide (((oft rs ((j : Nat) : Int) : Nat) : Int) ≤ (os.getD j o0).2.2)).all id)
  | _ => false
def IntRows (rs : List PyData) : Prop := ∀ r ∈ rs, ∃ ns : List Int, r = .list (ns.map PyData.int)
theorem oft_take {rs : List PyData} {j : Int} {i : Nat} {r : PyData} (g : rs[i]? = some r) : oft (rs.take (i + 1)) j = oft (rs.take i) j + if j ∈ intsD r then 1 else 0 := by
  unfold oft
  rw [List.take_add_one, g, Option.toList_some, List.filter_append, List.length_append]
  by_cases h : j ∈ intsD r
  · simp [h]
  · simp [h]
theorem intsD_ints (ns : List Int) : intsD (.list (ns.map PyData.int)) = ns := by
  show (ns.map PyData.int).map toI = ns
  rw [List.map_map]
  conv => rhs; rw [← List.map_id ns]
  rfl
theorem serve_ris {os : List Off} {w h : Int} {r : PyData} (e : serveD os w h r = true) : ∃ ns : List Int, r = .list (ns.map PyData.int) ∧ risI ns = true ∧ (∀ n ∈ ns, 0 ≤ n ∧ n ≤ ((os.length : Nat) : Int) - 1) ∧ ((ns.length : Nat) : Int) = w ∧ ∀ n ∈ ns, inO (os.getD n.toNat o0) h = true := by
  obtain ⟨h1, h2⟩ := Bool.and_eq_true_iff.mp e
  obtain ⟨h2, h3⟩ := Bool.and_eq_true_iff.mp h2
  obtain ⟨ds, rfl, ha⟩ := ris_list h1
  obtain ⟨en, bn⟩ := nums_of ha
  exact ⟨ds.map toI, by rw [← en], (Bool.and_eq_true_iff.mp h1).2, bn, of_decide_eq_true h2, List.all_eq_true.mp h3⟩
theorem all_range {n : Nat} {f : Nat → Bool} : ((List.range n).map f).all id = true ↔ ∀ i, i < n → f i = true := by
  rw [List.all_map, List.all_eq_true]
  exact ⟨fun h i hi => h i (List.mem_range.mpr hi), fun h i hi => h i (List.mem_range.mp hi)⟩
theorem getD_at {α : Type} {l : List α} {i : Nat} {x d : α} (h : l[i]? = some x) : l.getD i d = x := by rw [List.getD_eq_getElem?_getD, h]; rfl
theorem range_at {n i : Nat} {α : Type} {f : Nat → α} (h : i < n) : ((List.range n).map f)[i]? = some (f i) := by rw [List.getElem?_map, List.getElem?_range h]; rfl
def spRows (K : PySem.W.Frag) : Sp := fun vs H Q _ => ∃ (a c : Addr) (xs : List V) (os : List Off) (ws : List Int) (x : V) (d : PyData), vs = [.ref a, .ref c, x] ∧ SqL K H a xs ∧ DpAll K H xs (os.map offD) ∧ os.length ≤ 100 ∧ SqL K H c (ws.map V.int) ∧ ws.length ≤ 60 ∧ Dp K H x d ∧ widAll.wid d ≤ 4000 ∧ (∀ rs, d = .list rs → ∀ r ∈ rs, widAll.wid r ≤ 60) ∧ ∀ H', Same H H' → Q (.bl (rowsD os ws d)) H'

/-! ### _law_is_number: whether it's a number within bounds -/
abbrev s__law_is_number : Stmt := topS 30
def n__law_is_number : List Str := ["_law_thing", "_law_least", "_law_most"]
theorem sc__law_is_number : FnScope n__law_is_number ["_law_thing", "_law_least", "_law_most"] (defScope s__law_is_number) := ⟨rfl, rfl, rfl, by decide +kernel, rfl, by decide +kernel, by decide +kernel⟩
theorem ok_lnum {f : Addr} {fd : FuncData} {k : Nat} (F : Fun K "_law_is_number" "_law_is_number" s__law_is_number f fd) (T : Txt mg) : FnOk P w K mg base CX0 (k + 1) f fd ["_law_thing", "_law_least", "_law_most"] (spNum K) := by
  refine F.ok sc__law_is_number (fun vs H Q E h => ?_) (fun cdv A outer s H vs Q E hr h => ?_)
  · obtain ⟨x, d, lo, hi, rfl, _⟩ := h
    rfl
  · obtain ⟨x, d, lo, hi, rfl, dp, q⟩ := h
    have nd := sc__law_is_number.nd
    refine ⟨_, (pss_one (ps_ret (pe_and (pe_callB (kc_isi (K := K)) (by rfl) T.isinstance (by decide +kernel) (pa_cons (pv 0) (pa_cons (pe_bltn (v := .ty "int") (by rfl) T.int (by decide +kernel) rfl) pa_nil))) (pe_and (pe_not (pe_callB (kc_isi (K := K)) (by rfl) T.isinstance (by decide +kernel) (pa_cons (pv 0) (pa_cons (pe_bltn (v := .ty "bool") (by rfl) T.bool (by decide +kernel) rfl) pa_nil)))) (pe_one (pe_chain op_le op_le (pv 1) (pv 0) (pv 2))))))), ?_⟩
    refine ⟨_, rfl, _, .ty _, _, _, isIntD _, rfl, .ty _, tyx_dp dp, kit_int dp, _, rfl, ?_⟩
    have dp2 := dp
    cases dp with
    | int i =>
      refine iteT ⟨_, rfl, _, .ty _, _, _, isBoolD _, rfl, .ty _, tyx_dp dp2, kit_bool dp2, _, rfl, _, rfl, iteT ?_⟩
      refine ⟨_, rfl, _, rfl, _, _, rfl, rfl, _, rfl, ite2 (fun h1 => ⟨_, rfl, _, _, rfl, rfl, ?_⟩) (fun h1 => ?_)⟩
      · have e : numD lo hi (.int i) = decide (i ≤ hi) := by show (decide (lo ≤ i) && _) = _; rw [h1]; rfl
        rw [e] at q; exact q
      · have e : numD lo hi (.int i) = false := by show (decide (lo ≤ i) && _) = _; rw [Bool.not_eq_true _ |>.mp h1]; rfl
        rw [e] at q; exact q
    | bl b =>
      refine iteT ⟨_, rfl, _, .ty _, _, _, isBoolD _, rfl, .ty _, tyx_dp dp2, kit_bool dp2, _, rfl, _, rfl, iteF q⟩
    | non => exact iteF q
    | str _ => exact iteF q
    | lst _ _ => exact iteF q
    | tup _ _ => exact iteF q

abbrev s__law_are_rising : Stmt := topS 31
def n__law_are_rising : List Str := ["_law_thing", "_law_most", "_law_one"]
theorem sc__law_are_rising : FnScope n__law_are_rising ["_law_thing", "_law_most"] (defScope s__law_are_rising) := ⟨rfl, rfl, rfl, by decide +kernel, rfl, by decide +kernel, by decide +kernel⟩
def spLAre (K : PySem.W.Frag) : Sp := fun vs H Q _ => ∃ (x : V) (d : PyData) (hi : Int), vs = [x, .int hi] ∧ Dp K H x d ∧ widAll.wid d ≤ 4000 ∧ (hi ≤ 60 ∨ widAll.wid d ≤ 60) ∧ ∀ H', Same H H' → Q (.bl (risD 0 hi d)) H'
theorem ok_lare {f : Addr} {fd : FuncData} {k : Nat} (F : Fun K "_law_are_rising" "_law_are_rising" s__law_are_rising f fd) (T : Txt mg) (c__law_is_number : Cl P w K mg base (k + 1) "_law_is_number" (spNum K)) : FnOk P w K mg base CX0 (k + 2) f fd ["_law_thing", "_law_most"] (spLAre K) := by
  refine F.ok sc__law_are_rising (fun vs H Q E h => ?_) (fun cdv A outer s H vs Q E hr h => ?_)
  · obtain ⟨x, d, hi, rfl, _⟩ := h
    rfl
  · obtain ⟨x, d, hi, rfl, dp, hw, h60, q⟩ := h
    have nd := sc__law_are_rising.nd
    have hu64 := hr.units
    refine ⟨_, (pss_cons (ps_if ((pw_or (pt_not (pt_val (pe_callB (kc_isi (K := K)) (by rfl) T.isinstance (by decide +kernel) (pa_cons (pv 0) (pa_cons (pe_bltn (v := .ty "list") (by rfl) T.list (by decide +kernel) rfl) pa_nil))))) (pw_or1 (pt_not (pt_val (pe_callB (kc_all (K := K)) (by rfl) T.all (by decide +kernel) (pa_cons (pe_lc (own := [("_law_one", 2)]) rfl nd (ki_list (K := K) (pv 0)) (blkOk_by (N := n__law_are_rising) (sc := defScope s__law_are_rising) (by decide +kernel)) (fun _ _ _ _ _ => (pg_name (i := 2) nd rfl (.inl rfl))) (fun _ _ _ _ _ => pts_nil) (fun _ _ _ _ _ => (pe_cl c__law_is_number hr (by omega) (by rfl) (pa_cons (pv 2) (pa_cons pe_int (pa_cons (pv 1) pa_nil)))))) pa_nil))))))).pt
          (pss_one (ps_ret pe_bl))
          pss_nil)
      (pss_one (ps_ret (pe_cmpR (ko_eq (K := K) hu64) (pv 0) (pe_callB (kc_sortedSet (w := w)) (by rfl) T.sorted (by decide +kernel) (pa_cons (pe_callTy (kc_setLj (K := K) (w := w)) (by rfl) T.set (by decide +kernel) (pa_cons (pv 0) pa_nil)) pa_nil)) (nomark _))))), ?_⟩
    refine ⟨_, rfl, _, .ty _, _, _, isListD _, rfl, .ty _, tyx_dp dp, kit_list dp, _, rfl, ?_⟩
    have dp0 := dp
    cases dp with
    | @lst a xs ds hS hx =>
      have l4 : ds.length ≤ 4000 := Nat.le_trans (Nat.le_max_left ..) hw
      have l6 : hi ≤ 60 ∨ ds.length ≤ 60 := h60.imp id fun h => Nat.le_trans (Nat.le_max_left ..) h
      refine iteF ⟨_, rfl, a, rfl, ⟨_, hS⟩, fun D nD => ?_⟩
      refine lc_it (walk_list (xs := xs)) (PvL H D fun i => ((ds.map (numD 0 hi)).take i).map V.bl) (pv_start nD rfl) (fun i H2 _ h => h.1.seq hS) ?_ ?_
      · rintro i x H2 H3 hi2 p ⟨rfl, gx⟩
        obtain ⟨d, gd, pd⟩ := dpAll_at hx gx
        refine ⟨rfl, tYes_at ?_⟩
        rw [if_pos rfl]
        refine ⟨_, rfl, _, rfl, x, d, 0, hi, rfl, dp_same p.1 pd, ?_⟩
        exact pv_put nD p (Same.refl _) (take_map V.bl (by rw [List.getElem?_map, gd]; rfl)) (take_len_le (by rw [List.length_map]; omega))
      · intro H2 p
        obtain ⟨sm, hD⟩ := pv_end p (take_all (by rw [List.length_map, dpAll_len hx]; exact Nat.le_refl _))
        refine ⟨D, _, rfl, SqL.of hD, ?_⟩
        rw [all_map]
        refine ⟨_, rfl, ?_⟩
        cases ha : ds.all (numD 0 hi) with
        | false =>
          refine iteT ?_
          have e : risD 0 hi (.list ds) = false := by show (ds.all (numD 0 hi) && _) = _; rw [ha]; rfl
          rw [e] at q; exact q _ sm
        | true =>
          refine iteF ?_
          obtain ⟨en, bn⟩ := nums_of ha
          rw [en] at hx
          have ex := dp_intsV hx
          rw [ex] at hS
          have e : risD 0 hi (.list ds) = risI (ds.map toI) := by show (ds.all (numD 0 hi) && _) = _; rw [ha]; rfl
          rw [e] at q
          have ln : (ds.map toI).length ≤ 4000 := by rw [List.length_map]; exact l4
          have ln6 : hi ≤ 60 ∨ (ds.map toI).length ≤ 60 := by rw [List.length_map]; exact l6
          generalize ds.map toI = ns at q hS bn ln ln6
          refine ⟨_, rfl, _, rfl, a, ns, rfl, sm.seq hS, ln, fun p1 ks np1 nod mem => ?_⟩
          refine ⟨p1, _, _, rfl, upd_same, (ln6.elim (fun h60 => nodup_60 nod (fun k hk => by have := bn k ((mem k).mp hk); omega)) fun h60 => by have := List.Nodup.length_le_of_subset nod fun k hk => (mem k).mp hk; omega), fun zs p2 hz hm hl np2 => ?_⟩
          have s2 := (sm.trans (same_upd (o := SetO w p1 (fun k => decide (k ∈ ns)) ks.length) np1)).trans (same_upd (o := .lst (zs.map V.int)) np2)
          have h2 : upd (upd H2 p1 (SetO w p1 (fun k => decide (k ∈ ns)) ks.length)) p2 (.lst (zs.map V.int)) p2 = _ := upd_same
          generalize upd (upd H2 p1 (SetO w p1 (fun k => decide (k ∈ ns)) ks.length)) p2 (.lst (zs.map V.int)) = H3 at s2 h2 ⊢
          refine ⟨.list (ns.map PyData.int), .list (zs.map PyData.int), .lst (s2.seq hS) (dp_ints ns), .lst (SqL.of h2) (dp_ints zs), PySem.W.ke_shaped_ints ns, PySem.W.ke_shaped_ints zs, ?_⟩
          rw [eqv_ints, eq_sorted hz (fun k => by rw [hm k, decide_eq_true_eq])]
          exact q _ s2
    | int i => exact iteT (q _ (Same.refl _))
    | bl b => exact iteT (q _ (Same.refl _))
    | non => exact iteT (q _ (Same.refl _))
    | str _ => exact iteT (q _ (Same.refl _))
    | tup _ _ => exact iteT (q _ (Same.refl _))

abbrev s__law_room : Stmt := topS 29
def n__law_room : List Str := ["_law_offers", "_law_hours", "_law_total", "_law_first", "_law_last", "_law_gathers", "_law_hour"]
theorem sc__law_room : FnScope n__law_room ["_law_offers", "_law_hours"] (defScope s__law_room) := ⟨rfl, rfl, rfl, by decide +kernel, rfl, by decide +kernel, by decide +kernel⟩
theorem ok_room {f : Addr} {fd : FuncData} {k : Nat} (F : Fun K "_law_room" "_law_room" s__law_room f fd) (T : Txt mg) : FnOk P w K mg base CX0 (k + 1) f fd ["_law_offers", "_law_hours"] (spMost K) := by
  refine F.ok sc__law_room (fun vs H Q E h => ?_) (fun cdv A outer s H vs Q E hr h => ?_)
  · obtain ⟨a, c, xs, os, ns, rfl, _⟩ := h
    rfl
  · obtain ⟨a, c, xs, os, ns, rfl, hS, hx, lo, hN, ln, q⟩ := h
    have nd := sc__law_room.nd
    refine ⟨_, (pss_cons (ps_set (i := 2) nd rfl (.inl rfl) pe_int)
      (pss_cons (ps_for PassesOwn.never rfl (ki_list (K := K) (pv 0)) (kg_tup (K := K) (n := 3) (pgs_cons (pg_name (i := 3) nd rfl (.inr rfl)) (pgs_cons (pg_name (i := 4) nd rfl (.inr rfl)) (pgs_cons (pg_name (i := 5) nd rfl (.inl rfl)) pgs_nil))))
          (pss_one (ps_set (i := 2) nd rfl (.inl rfl) (pe_op op_add (pv 2) (pe_callB (call_min2 rfl) (by rfl) T.min (by decide +kernel) (pa_cons (pv 5) (pa_cons (pe_callB (kc_len (K := K)) (by rfl) T.len PySem.boot_len (pa_cons (pe_lc (own := [("_law_hour", 6)]) rfl nd (ki_list (K := K) (pv 1)) (blkOk_by (N := n__law_room) (sc := defScope s__law_room) (by decide +kernel)) (fun _ _ _ _ _ => (pg_name (i := 6) nd rfl (.inl rfl))) (fun _ _ _ _ _ => (pts_one (pt_chain op_le op_lt (pv 3) (pv 6) (pv 4)))) (fun _ _ _ _ _ => (pv 6))) pa_nil)) pa_nil)))))))
      (pss_one (ps_ret (pv 2))))), ?_⟩
    refine ⟨_, rfl, a, rfl, ⟨_, hS⟩, ?_⟩
    refine for_it (walk_list (xs := xs)) (fun i σ H2 => ∃ v3 v4 v5, σ = [some (.ref a), some (.ref c), some (.int ((os.map (mo1 ns)).take i).sum), v3, v4, v5, none] ∧ Same H H2) ⟨none, none, none, rfl, Same.refl _⟩ (fun i σ H2 _ h => by obtain ⟨_, _, _, _, s2⟩ := h; exact s2.seq hS) ?_ ?_
    · rintro i x σ H2 H3 hi ⟨v3, v4, v5, rfl, s2⟩ ⟨rfl, gx⟩
      obtain ⟨d, gd, dp⟩ := dpAll_at hx gx
      rw [List.getElem?_map] at gd
      obtain ⟨o, go, rfl⟩ := Option.map_eq_some_iff.mp gd
      have dp := dp_same s2 dp
      obtain ⟨t, rfl, hT⟩ := off_dp dp
      refine ⟨t, _, rfl, hT, rfl, _, _, rfl, _, _, rfl, _, _, rfl, rfl, ?_⟩
      refine ⟨_, rfl, _, rfl, _, rfl, c, rfl, ⟨_, s2.seq hN⟩, fun D2 nD2 => ?_⟩
      refine lc_it (walk_list (xs := ns.map V.int)) (PvL H3 D2 fun j => ((ns.take j).filter (inO o)).map V.int) (pv_start nD2 rfl) (fun j H4 _ h => (s2.trans h.1).seq hN) ?_ ?_
      · rintro j y H4 H5 hj p2 ⟨rfl, gy⟩
        rw [List.getElem?_map] at gy
        obtain ⟨n, gn, rfl⟩ := Option.map_eq_some_iff.mp gy
        have e := filt_take (o := o) gn
        have no : inO o n = false → PvL H3 D2 (fun j => ((ns.take j).filter (inO o)).map V.int) (j + 1) H5 := fun z => by
          rw [z, if_neg Bool.false_ne_true] at e
          exact pv_skip p2 (Same.refl _) e
        refine ⟨rfl, _, rfl, _, rfl, _, _, rfl, rfl, _, rfl, ite2 (fun h1 => ⟨_, rfl, _, _, rfl, rfl, _, rfl, ite2 (fun h2 => ?_) (fun h2 => ?_)⟩) (fun h1 => ?_)⟩
        · have z : inO o n = true := by unfold inO; rw [h1, h2]; rfl
          rw [z, if_pos rfl] at e
          exact ⟨_, rfl, pv_put nD2 p2 (Same.refl _) e (filt_len ln)⟩
        · exact no (by unfold inO; rw [Bool.not_eq_true _ |>.mp h2, Bool.and_false])
        · exact ⟨_, rfl, iteF (no (by unfold inO; rw [Bool.not_eq_true _ |>.mp h1, Bool.false_and]))⟩
      · intro H4 p2
        obtain ⟨sm, hD2⟩ := pv_end (zs := (ns.filter (inO o)).map V.int) p2 (by show ((ns.take _).filter _).map _ = _; rw [List.length_map, List.take_length])
        refine ⟨_, (ns.filter (inO o)).length, rfl, .inl ⟨_, SqL.of hD2, by rw [List.length_map]⟩, _, _, rfl, _, _, rfl, rfl, some (.int o.1), some (.int o.2.1), some (.int o.2.2), ?_, s2.trans sm⟩
        have e : ((os.map (mo1 ns)).take (i + 1)).sum = ((os.map (mo1 ns)).take i).sum + mo1 ns o := by
          rw [List.take_add_one, List.getElem?_map, go, List.sum_append]; simp
        rw [e]
        rfl
    · rintro σ H2 ⟨v3, v4, v5, rfl, s2⟩
      refine ⟨_, rfl, ?_⟩
      have e : ((os.map (mo1 ns)).take xs.length).sum = moF os ns := by
        rw [dpAll_len hx, List.length_map, List.take_of_length_le (by rw [List.length_map]; exact Nat.le_refl _)]; rfl
      rw [e]
      exact q _ s2

abbrev s__law_is_lack : Stmt := topS 32
def n__law_is_lack : List Str := ["_law_offers", "_law_wants_here", "_law_thing", "_law_hour"]
theorem sc__law_is_lack : FnScope n__law_is_lack ["_law_offers", "_law_wants_here", "_law_thing"] (defScope s__law_is_lack) := ⟨rfl, rfl, rfl, by decide +kernel, rfl, by decide +kernel, by decide +kernel⟩
theorem ok_llack {f : Addr} {fd : FuncData} {k : Nat} (F : Fun K "_law_is_lack" "_law_is_lack" s__law_is_lack f fd) (T : Txt mg) (c__law_is_number : Cl P w K mg base (k + 1) "_law_is_number" (spNum K)) (c__law_are_rising : Cl P w K mg base (k + 2) "_law_are_rising" (spLAre K)) (c__law_room : Cl P w K mg base (k + 2) "_law_room" (spMost K)) : FnOk P w K mg base CX0 (k + 3) f fd ["_law_offers", "_law_wants_here", "_law_thing"] (spLack K) := by
  refine F.ok sc__law_is_lack (fun vs H Q E h => ?_) (fun cdv A outer s H vs Q E hr h => ?_)
  · obtain ⟨a, c, xs, os, ws, x, d, rfl, _⟩ := h
    rfl
  · obtain ⟨a, c, xs, os, ws, x, d, rfl, hS, hx, lo, hW, lw, dp, hw, q⟩ := h
    have nd := sc__law_is_lack.nd
    refine ⟨_, (pss_cons (ps_if ((pw_or (pt_not (pt_val (pe_callB (kc_isi (K := K)) (by rfl) T.isinstance (by decide +kernel) (pa_cons (pv 2) (pa_cons (pe_bltn (v := .ty "tuple") (by rfl) T.tuple (by decide +kernel) rfl) pa_nil))))) (pw_or (pt_cmpR op_ne (pe_callB (kc_len (K := K)) (by rfl) T.len PySem.boot_len (pa_cons (pv 2) pa_nil)) pe_int (nomark _)) (pw_or1 (pt_not (pt_val (pe_cl c__law_is_number hr (by omega) (by rfl) (pa_cons (pe_ix (kx_tup (K := K)) (pv 2) pe_int (fun _ _ => rfl)) (pa_cons pe_int (pa_cons (pe_op op_sub (pe_callB (kc_len (K := K)) (by rfl) T.len PySem.boot_len (pa_cons (pv 1) pa_nil)) pe_int) pa_nil)))))))))).pt
          (pss_one (ps_ret pe_bl))
          pss_nil)
      (pss_cons (ps_if (pt_not (pt_val (pe_cl c__law_are_rising hr (by omega) (by rfl) (pa_cons (pe_ix (kx_tup (K := K)) (pv 2) pe_int (fun _ _ => rfl)) (pa_cons (pe_ix (kx_tup (K := K)) (pv 2) pe_int (fun _ _ => rfl)) pa_nil)))))
          (pss_one (ps_ret pe_bl))
          pss_nil)
      (pss_one (ps_ret (pe_cmpR op_gt (pe_callB (kc_sum (K := K)) (by rfl) T.sum (by decide +kernel) (pa_cons (pe_lc (own := [("_law_hour", 3)]) rfl nd (ki_list (K := K) (pe_ix (kx_tup (K := K)) (pv 2) pe_int (fun _ _ => rfl))) (blkOk_by (N := n__law_is_lack) (sc := defScope s__law_is_lack) (by decide +kernel)) (fun _ _ _ _ _ => (pg_name (i := 3) nd rfl (.inl rfl))) (fun _ _ _ _ _ => pts_nil) (fun _ _ _ _ _ => (pe_ix (kx_list (K := K)) (pv 1) (pv 3) (fun _ _ => rfl)))) pa_nil)) (pe_cl c__law_room hr (by omega) (by rfl) (pa_cons (pv 0) (pa_cons (pe_ix (kx_tup (K := K)) (pv 2) pe_int (fun _ _ => rfl)) pa_nil))) (nomark _)))))), ?_⟩
    refine ⟨_, rfl, _, .ty _, _, _, isTupD _, rfl, .ty _, tyx_dp dp, kit_tup dp, _, rfl, ?_⟩
    have out : ∀ H', Same H H' → lackD os ws d = false → Q (.bl false) H' := fun H' s e => by rw [e] at q; exact q _ s
    have dp0 := dp
    cases dp with
    | @tup t zs ds hT hz =>
      refine iteF ⟨_, rfl, _, zs.length, rfl, .inr ⟨zs, hT, rfl⟩, rfl, _, rfl, ite2 (fun h1 => ?_) (fun h1 => ?_)⟩
      · refine iteT (out _ (Same.refl _) (row2' fun z => ?_))
        have e : ((ds.length : Nat) : Int) = 2 := of_decide_eq_true z
        rw [dpAll_len hz, e] at h1
        simp at h1
      have h2 : rowD 2 (.tuple ds) = true := by
        refine decide_eq_true ?_
        have : decide (V.int ((zs.length : Nat) : Int) = V.int 2) = true := by simpa using h1
        rw [dpAll_len hz] at this
        exact V.int.inj (of_decide_eq_true this)
      obtain ⟨da, db, ed⟩ := row2 h2
      rw [ed] at dp0 out q hw
      obtain ⟨t2, va, vb, et, hT, pa, pb⟩ := two_dp dp0
      obtain rfl : t = t2 := V.ref.inj et
      have hwb : widAll.wid db ≤ 4000 := Nat.le_trans (Nat.le_trans (wid_at (ds := [da, db]) (i := 1) rfl) (Nat.le_max_right ..)) hw
      refine ⟨_, rfl, t, _, 0, va, rfl, rfl, hT, rfl, _, rfl, _, ws.length, rfl, .inl ⟨_, hW, by rw [List.length_map]⟩, _, _, rfl, rfl, va, da, 0, _, rfl, pa, _, rfl, ?_⟩
      cases h2 : numD 0 (((ws.length : Nat) : Int) - 1) da with
      | false => exact iteT (out _ (Same.refl _) (by show (numD 0 (ws.length - 1) da && _) = false; rw [h2]; rfl))
      | true =>
      refine iteF ?_
      obtain ⟨ea, a0, a1⟩ := numD_int h2
      rw [ea] at pa
      generalize hia : toI da = ia at ea a0 a1 pa
      obtain rfl : va = .int ia := by cases pa; rfl
      refine ⟨_, rfl, t, _, 1, vb, rfl, rfl, hT, rfl, _, rfl, t, _, 0, .int ia, rfl, rfl, hT, rfl, vb, db, ia, rfl, pb, hwb, .inl (by omega), fun H1 s1 => ⟨_, rfl, ?_⟩⟩
      cases h3 : risD 0 ia db with
      | false => exact iteT (out _ s1 (by show (numD 0 (ws.length - 1) da && (risD 0 (toI da) db && _)) = false; rw [hia, h3, Bool.false_and, Bool.and_false]))
      | true =>
      refine iteF ?_
      obtain ⟨ds2, rfl, hall⟩ := ris_list h3
      have e : lackD os ws (.tuple [da, .list ds2]) = decide (moF os (ds2.map toI) < wantF ws (ds2.map toI)) := by
        show (numD 0 (ws.length - 1) da && (risD 0 (toI da) (.list ds2) && decide (moF os (ds2.map toI) < wantF ws (ds2.map toI)))) = _
        rw [hia, h3, h2, Bool.true_and, Bool.true_and]
      rw [e] at q
      obtain ⟨en, bn⟩ := nums_of hall
      have lds : ds2.length ≤ 4000 := Nat.le_trans (Nat.le_max_left ..) hwb
      obtain ⟨eL, zs2, rfl, hE, hz2⟩ := dp_lst' pb
      rw [en] at hz2
      rw [dp_intsV hz2] at hE
      have ln : (ds2.map toI).length ≤ 4000 := by rw [List.length_map]; exact lds
      generalize ds2.map toI = ns at q hE bn ln
      have hT := same_tup s1 hT
      have hW := s1.seq hW
      refine ⟨_, rfl, t, _, 1, _, rfl, rfl, hT, rfl, eL, rfl, ⟨_, s1.seq hE⟩, fun D nD => ?_⟩
      refine lc_it (walk_list (xs := ns.map V.int)) (PvL H1 D fun i => ((ns.map fun h => ws.getD h.toNat 0).take i).map V.int) (pv_start nD rfl) (fun i H2 _ h => (s1.trans h.1).seq hE) ?_ ?_
      · rintro i y H2 H3 hi p ⟨rfl, gy⟩
        rw [List.getElem?_map] at gy
        obtain ⟨n, gn, rfl⟩ := Option.map_eq_some_iff.mp gy
        obtain ⟨n0, n1⟩ := bn n (List.mem_of_getElem? gn)
        refine ⟨rfl, tYes_at ?_⟩
        rw [if_pos rfl]
        refine ⟨_, rfl, _, rfl, c, _, _, _, rfl, rfl, p.1.seq hW, want_at n0 (by omega), ?_⟩
        exact pv_put nD p (Same.refl _) (take_map V.int (by rw [List.getElem?_map, gn]; rfl)) (take_len_le (by rw [List.length_map]; omega))
      · intro H2 p
        obtain ⟨s2, hD⟩ := pv_end p (take_all (by rw [List.length_map, List.length_map]; exact Nat.le_refl _))
        refine ⟨D, _, rfl, SqL.of hD, ?_⟩
        have s12 := s1.trans s2
        refine ⟨_, rfl, _, rfl, t, _, 1, _, rfl, rfl, same_tup s2 hT, rfl, a, eL, xs, os, ns, rfl, s12.seq hS, dpAll_same s12 hx, lo, s12.seq hE, ln, fun H3 s3 => ⟨_, _, rfl, rfl, ?_⟩⟩
        exact q _ (s12.trans s3)
    | int i => exact iteT (out _ (Same.refl _) rfl)
    | bl b => exact iteT (out _ (Same.refl _) rfl)
    | non => exact iteT (out _ (Same.refl _) rfl)
    | str _ => exact iteT (out _ (Same.refl _) rfl)
    | lst _ _ => exact iteT (out _ (Same.refl _) rfl)

end
end Pot

namespace Pot
open PySem PySem.Spec PyProof.Rows L2
variable {P : Program} {w : World} {K : PySem.W.Frag} {mg : Str → Option Value} {base : Heap}
/-! ### what is found is right by the law's own looks -/
theorem sg_map {f : Off → Int} : ∀ {os : List Off}, sg (fun n => f (os.getD n o0)) os.length = (os.map f).sum := by
  intro os
  have key : ∀ (n : Nat), n ≤ os.length → sg (fun n => f (os.getD n o0)) n = ((os.take n).map f).sum := by
    intro n
    induction n with
    | zero => intro _; rfl
    | succ n ih =>
      intro h
      show sg _ n + f (os.getD n o0) = _
      have g : os[n]? = some (os[n]'(by omega)) := List.getElem?_eq_getElem (by omega)
      rw [ih (by omega), List.take_add_one, g, Option.toList_some, List.map_append, List.sum_append, getD_at g]
      simp
  have := key os.length (Nat.le_refl _)
  rw [List.take_length] at this
  exact this
theorem inO_nat {os : List Off} {n h : Nat} : inO (os.getD n o0) ((h : Nat) : Int) = decide (inW os n h) := by
  unfold inO
  rw [Bool.eq_iff_iff, Bool.and_eq_true_iff]
  simp only [decide_eq_true_eq]
  exact Iff.rfl
theorem mo_room {os : List Off} {S : List Nat} : moF os (S.map Int.ofNat) = roomF os S := by
  unfold moF roomF
  rw [← sg_map]
  refine sg_congr fun n _ => ?_
  have e : ((S.map Int.ofNat).filter (inO (os.getD n o0))).length = (S.filter fun h => decide (inW os n h)).length := by
    rw [List.filter_map, List.length_map]
    congr 1
    refine List.filter_congr fun h _ => ?_
    exact inO_nat
  unfold mo1 gaF wincF
  rw [e]
  split <;> omega
theorem want_sum {ws : List Int} {S : List Nat} : wantF ws (S.map Int.ofNat) = (S.map fun x => ws.getD x 0).sum := by
  unfold wantF
  rw [List.map_map]
  rfl
theorem sum_perm {f : Nat → Int} {S T : List Nat} (p : S.Perm T) : (S.map f).sum = (T.map f).sum := by
  induction p with
  | nil => rfl
  | cons x _ ih => rw [List.map_cons, List.map_cons, List.sum_cons, List.sum_cons, ih]
  | swap x y l => simp only [List.map_cons, List.sum_cons]; omega
  | trans _ _ h1 h2 => rw [h1, h2]
theorem room_perm {os : List Off} {S T : List Nat} (p : S.Perm T) : roomF os S = roomF os T := by
  unfold roomF
  refine sg_congr fun n _ => ?_
  unfold wincF
  rw [(p.filter _).length_eq]
theorem nsort_nodup {l : List Nat} (h : l.Nodup) : (natSort l).Nodup := (natSort_perm l).nodup_iff.mpr h
theorem nsort_ris {l : List Nat} (h : l.Nodup) : risI ((natSort l).map Int.ofNat) = true := by
  rw [risI_pair, List.pairwise_map]
  have h2 := nsort_nodup h
  have h1 := natSort_pair l
  refine (List.Pairwise.and h1 h2).imp fun h => ?_
  obtain ⟨h1, h2⟩ := h
  simp only [Int.ofNat_eq_natCast]
  omega
theorem nums_nat {l : List Nat} {hi : Int} (h : ∀ x ∈ l, ((x : Nat) : Int) ≤ hi) : ((l.map Int.ofNat).map PyData.int).all (numD 0 hi) = true := by
  rw [List.all_eq_true]
  intro d hd
  obtain ⟨i, hi2, rfl⟩ := List.mem_map.mp hd
  obtain ⟨x, hx, rfl⟩ := List.mem_map.mp hi2
  have := h x hx
  show (decide ((0 : Int) ≤ Int.ofNat x) && decide (Int.ofNat x ≤ hi)) = true
  simp only [Int.ofNat_eq_natCast]
  rw [decide_eq_true (by omega), decide_eq_true this]; rfl
theorem toI_ints (ns : List Int) : (ns.map PyData.int).map toI = ns := intsD_ints ns
theorem lk_lackD {os : List Off} {ws : List Int} {h : Nat} {S : List Nat} (L : LkR os ws h S) : lackD os ws (.tuple [.int (h : Nat), .list (((natSort S).map Int.ofNat).map PyData.int)]) = true := by
  show (numD 0 (ws.length - 1) (.int (h : Nat)) && (risD 0 ((h : Nat) : Int) (.list (((natSort S).map Int.ofNat).map PyData.int)) && decide (moF os (intsD (.list (((natSort S).map Int.ofNat).map PyData.int))) < wantF ws (intsD (.list (((natSort S).map Int.ofNat).map PyData.int)))))) = true
  have hl := L.lt
  have e1 : numD 0 (ws.length - 1) (.int (h : Nat)) = true := by
    show (decide ((0 : Int) ≤ (h : Nat)) && decide (((h : Nat) : Int) ≤ ws.length - 1)) = true
    rw [decide_eq_true (by omega), decide_eq_true (by omega)]; rfl
  have e2 : risD 0 ((h : Nat) : Int) (.list (((natSort S).map Int.ofNat).map PyData.int)) = true := by
    show (_ && risI ((((natSort S).map Int.ofNat).map PyData.int).map toI)) = true
    rw [nums_nat fun x hx => by have := L.le x ((natSort_perm S).mem_iff.mp hx); omega, toI_ints, nsort_ris L.nd]; rfl
  rw [e1, e2, intsD_ints, mo_room, want_sum, room_perm (natSort_perm S), sum_perm (natSort_perm S), decide_eq_true L.more]; rfl
def rowsP (rows : List (List Nat)) : List PyData := (rows.map natSort).map fun r => .list ((r.map Int.ofNat).map PyData.int)
theorem rowsP_at {rows : List (List Nat)} {i : Nat} (hi : i < rows.length) : (rowsP rows).getD i .none = .list (((natSort (rows.getD i [])).map Int.ofNat).map PyData.int) := by
  refine getD_at ?_
  unfold rowsP
  rw [List.getElem?_map, List.getElem?_map, List.getElem?_eq_getElem hi, List.getD_eq_getElem?_getD, List.getElem?_eq_getElem hi]
  rfl
theorem oft_used {rows : List (List Nat)} {j : Nat} : ((oft (rowsP rows) ((j : Nat) : Int) : Nat) : Int) = usedF rows j := by
  unfold usedF
  have key : ∀ n, n ≤ rows.length → ((oft ((rowsP rows).take n) ((j : Nat) : Int) : Nat) : Int) = sg (fun h => if j ∈ rows.getD h [] then 1 else 0) n := by
    intro n
    induction n with
    | zero => intro _; rfl
    | succ n ih =>
      intro h
      have g : (rowsP rows)[n]? = some (.list (((natSort (rows.getD n [])).map Int.ofNat).map PyData.int)) := by
        unfold rowsP
        rw [List.getElem?_map, List.getElem?_map, List.getElem?_eq_getElem (by omega : n < rows.length), List.getD_eq_getElem?_getD, List.getElem?_eq_getElem (by omega : n < rows.length)]
        rfl
      show _ = sg _ n + (if j ∈ rows.getD n [] then 1 else 0)
      rw [oft_take g, intsD_ints, ← ih (by omega)]
      have e : ((j : Nat) : Int) ∈ (natSort (rows.getD n [])).map Int.ofNat ↔ j ∈ rows.getD n [] := by
        rw [List.mem_map]
        constructor
        · rintro ⟨x, hx, e⟩
          have : x = j := by simp only [Int.ofNat_eq_natCast] at e; omega
          rw [← this]; exact (natSort_perm _).mem_iff.mp hx
        · intro hj
          exact ⟨j, (natSort_perm _).mem_iff.mpr hj, rfl⟩
      by_cases hj : j ∈ rows.getD n []
      · rw [if_pos (e.mpr hj), if_pos hj]; omega
      · rw [if_neg (fun z => hj (e.mp z)), if_neg hj]; omega
  have := key rows.length (Nat.le_refl _)
  rw [List.take_of_length_le (by unfold rowsP; simp)] at this
  exact this
theorem rowsD_O {os : List Off} {ws : List Int} {rows : List (List Nat)} (O : OkR os ws rows) : rowsD os ws (.list (rowsP rows)) = true := by
  have lr : (rowsP rows).length = rows.length := by unfold rowsP; simp
  show (decide _ && (_ && _)) = true
  rw [decide_eq_true (by rw [lr, O.len]), Bool.true_and, Bool.and_eq_true_iff, all_range, all_range]
  constructor
  · intro i hi
    rw [lr] at hi
    rw [rowsP_at hi]
    obtain ⟨nd, mem⟩ := O.ri i
    unfold serveD
    rw [intsD_ints]
    have e1 : risD 0 (((os.length : Nat) : Int) - 1) (.list (((natSort (rows.getD i [])).map Int.ofNat).map PyData.int)) = true := by
      show (_ && risI ((((natSort (rows.getD i [])).map Int.ofNat).map PyData.int).map toI)) = true
      rw [nums_nat fun x hx => by have := (mem x ((natSort_perm _).mem_iff.mp hx)).1; omega, toI_ints, nsort_ris nd]; rfl
    rw [e1, Bool.true_and, Bool.and_eq_true_iff]
    refine ⟨decide_eq_true ?_, List.all_eq_true.mpr fun n hn => ?_⟩
    · rw [List.length_map, (natSort_perm _).length_eq]
      exact O.full i (by rw [← O.len]; exact hi)
    · obtain ⟨x, hx, rfl⟩ := List.mem_map.mp hn
      show inO (os.getD x o0) _ = true
      rw [inO_nat]
      exact decide_eq_true (mem x ((natSort_perm _).mem_iff.mp hx)).2
  · intro j hj
    rw [oft_used]
    exact decide_eq_true (O.us j hj)
theorem rows_dp {H : Hp} {R : Addr} {as : List Addr} {rows : List (List Nat)} (r : RowsH H R as rows) : Dp K H (.ref R) (.list (rows.map fun r => .list ((r.map Int.ofNat).map PyData.int))) := by
  have key : ∀ (as : List Addr) (rows : List (List Nat)), as.length = rows.length → (∀ (i : Nat) (x : Addr), as[i]? = some x → H x = some (.lst ((rows.getD i []).map nV))) → DpAll K H (as.map V.ref) (rows.map fun r => .list ((r.map Int.ofNat).map PyData.int)) := by
    intro as
    induction as with
    | nil =>
      intro rows l h
      cases rows with
      | nil => exact .nil
      | cons _ _ => cases l
    | cons x as ih =>
      intro rows l h
      cases rows with
      | nil => cases l
      | cons y rows =>
        have hy := h 0 x rfl
        have ey : y.map nV = (y.map Int.ofNat).map V.int := by rw [List.map_map]; rfl
        have hy2 : H x = some (.lst ((y.map Int.ofNat).map V.int)) := by rw [← ey]; exact hy
        exact .cons (.lst (SqL.of hy2) (dp_ints _)) (ih rows (Nat.succ.inj l) fun i z e => h (i + 1) z e)
  exact .lst (SqL.of r.r) (key as rows r.l r.a)
theorem rows_wid {os : List Off} {ws : List Int} {rows : List (List Nat)} (O : OkR os ws rows) (lo : os.length ≤ 100) (lw : ws.length ≤ 60) : widAll.wid (.list (rowsP rows)) ≤ 4000 := by
  have lr : (rowsP rows).length = rows.length := by unfold rowsP; simp
  refine Nat.max_le.mpr ⟨by rw [lr, O.len]; omega, widAll_iff.mpr fun d hd => ?_⟩
  obtain ⟨r, hr, rfl⟩ := List.mem_map.mp hd
  obtain ⟨r0, h0, rfl⟩ := List.mem_map.mp hr
  rw [wid_ints, List.length_map, (natSort_perm _).length_eq]
  obtain ⟨i, hi, rfl⟩ := List.mem_iff_getElem.mp h0
  have := row_short O.ri i
  rw [List.getD_eq_getElem?_getD, List.getElem?_eq_getElem hi] at this
  have h2 : rows[i].length ≤ os.length := this
  omega
theorem lk_wid {os : List Off} {ws : List Int} {h : Nat} {S : List Nat} (L : LkR os ws h S) (lw : ws.length ≤ 60) : widAll.wid (.tuple [.int (h : Nat), .list (((natSort S).map Int.ofNat).map PyData.int)]) ≤ 4000 := by
  have hl := L.lt
  have h1 : S.length ≤ (List.range (h + 1)).length := List.Nodup.length_le_of_subset L.nd fun x hx => List.mem_range.mpr (by have := L.le x hx; omega)
  rw [List.length_range] at h1
  refine Nat.max_le.mpr ⟨by show 2 ≤ 4000; decide, widAll_iff.mpr fun d hd => ?_⟩
  simp only [List.mem_cons, List.not_mem_nil, or_false] at hd
  rcases hd with rfl | rfl
  · exact Nat.zero_le _
  · rw [wid_ints, List.length_map, (natSort_perm _).length_eq]
    omega
theorem day_pre {os : List Off} : ∀ {ws : List Int} {h : Nat} {d : Dy} {a : Nat} {S : List Nat}, dayF os ws h d = .inr (a, S) →
    h ≤ a ∧ a - h < ws.length ∧ (∃ rows, dayF os (ws.take (a - h)) h d = .inl rows) ∧ dayF os (ws.take (a - h + 1)) h d = .inr (a, S)
  | [], h, d, a, S, e => by cases e
  | w :: l, h, d, a, S, e => by
    unfold dayF at e
    cases hm : manyF os h w.toNat (d.1 ++ [[]], d.2) with
    | inr T =>
      rw [hm] at e
      obtain ⟨rfl, rfl⟩ := Prod.mk.inj (Sum.inr.inj e)
      rw [Nat.sub_self]
      refine ⟨Nat.le_refl _, by simp, ⟨_, rfl⟩, ?_⟩
      show dayF os (w :: l.take 0) h d = _
      unfold dayF
      rw [hm]
    | inl d2 =>
      rw [hm] at e
      obtain ⟨h1, h2, ⟨rows, h3⟩, h4⟩ := day_pre (ws := l) e
      obtain ⟨m, rfl⟩ : ∃ m, a = h + 1 + m := ⟨a - (h + 1), by omega⟩
      have e1 : h + 1 + m - h = m + 1 := by omega
      have e2 : h + 1 + m - (h + 1) = m := by omega
      rw [e2] at h2 h3 h4
      rw [e1]
      refine ⟨by omega, by rw [List.length_cons]; omega, ⟨rows, ?_⟩, ?_⟩
      · show dayF os (w :: l.take m) h d = _
        unfold dayF
        rw [hm]; exact h3
      · show dayF os (w :: l.take (m + 1)) h d = _
        unfold dayF
        rw [hm]; exact h4
theorem served_pre {os : List Off} {ws : List Int} {a : Nat} {S : List Nat} (e : servedF os ws = .inr (a, S)) : a < ws.length ∧ (∃ rows, servedF os (ws.take a) = .inl rows) ∧ servedF os (ws.take (a + 1)) = .inr (a, S) := by
  have := day_pre (show dayF os ws 0 ([], os.map (·.2.2)) = _ from e)
  rw [Nat.sub_zero] at this
  exact ⟨this.2.1, this.2.2.1, this.2.2.2⟩

theorem rows_w60 {os : List Off} {ws : List Int} {rows : List (List Nat)} (O : OkR os ws rows) (w6 : ∀ z ∈ ws, z ≤ 60) : ∀ rs, PyData.list (rowsP rows) = .list rs → ∀ r ∈ rs, widAll.wid r ≤ 60 := by
  intro rs e r hr
  cases e
  obtain ⟨r0, h0, rfl⟩ := List.mem_map.mp hr
  obtain ⟨r1, h1, rfl⟩ := List.mem_map.mp h0
  rw [wid_ints, List.length_map, (natSort_perm _).length_eq]
  obtain ⟨i, hi, rfl⟩ := List.mem_iff_getElem.mp h1
  have hi2 : i < ws.length := by rw [← O.len]; exact hi
  have h2 := O.full i hi2
  have e1 : rows.getD i [] = rows[i] := by rw [List.getD_eq_getElem?_getD, List.getElem?_eq_getElem hi]; rfl
  have e2 : ws.getD i 0 = ws[i] := by rw [List.getD_eq_getElem?_getD, List.getElem?_eq_getElem hi2]; rfl
  rw [e1, e2] at h2
  have h3 := w6 _ (List.mem_of_getElem? (List.getElem?_eq_getElem hi2))
  omega

/-! ### the hour up to which all are served, as sums over any choice of hours -/
def cnP (p : Nat → Bool) (o : Off) (n : Nat) : Int := sg (fun h => if p h = true ∧ inO o ((h : Nat) : Int) = true then 1 else 0) n
def rmP (os : List Off) (p : Nat → Bool) (n : Nat) : Int := (os.map fun o => min o.2.2 (cnP p o n)).sum
def wnP (ws : List Int) (p : Nat → Bool) (n : Nat) : Int := sg (fun h => if p h = true then ws.getD h 0 else 0) n
def Fit (os : List Off) (ws : List Int) (n : Nat) : Prop := ∀ p : Nat → Bool, wnP ws p n ≤ rmP os p n
theorem room_p {os : List Off} {S : List Nat} {n : Nat} (nd : S.Nodup) (lt : ∀ h ∈ S, h < n) : roomF os S = rmP os (fun h => decide (h ∈ S)) n := by
  unfold roomF rmP
  rw [← sg_map (f := fun o => min o.2.2 (cnP (fun h => decide (h ∈ S)) o n))]
  refine sg_congr fun k _ => ?_
  show min (gaF os k) _ = min (os.getD k o0).2.2 _
  have e : wincF os k S = cnP (fun h => decide (h ∈ S)) (os.getD k o0) n := by
    rw [winc_sg nd lt]
    refine sg_congr fun h _ => ?_
    rw [inO_nat]
    simp only [decide_eq_true_eq]
  rw [e]; rfl
theorem sum_p {ws : List Int} {S : List Nat} {n : Nat} (nd : S.Nodup) (lt : ∀ h ∈ S, h < n) : (S.map fun x => ws.getD x 0).sum = wnP ws (fun h => decide (h ∈ S)) n := by
  rw [sum_sg nd lt]
  refine sg_congr fun h _ => ?_
  simp only [decide_eq_true_eq]
theorem sum_mem_le {os : List Off} {f g : Off → Int} (h : ∀ o ∈ os, f o ≤ g o) : (os.map f).sum ≤ (os.map g).sum := by
  induction os with
  | nil => exact Int.le_refl _
  | cons o os ih =>
    rw [List.map_cons, List.map_cons, List.sum_cons, List.sum_cons]
    have := h o List.mem_cons_self
    have := ih fun x hx => h x (List.mem_cons_of_mem _ hx)
    omega
theorem sum_mem_eq {os : List Off} {f g : Off → Int} (h : ∀ o ∈ os, f o = g o) : (os.map f).sum = (os.map g).sum := by
  rw [List.map_congr_left h]
theorem wn_congr {ws ws' : List Int} {p q : Nat → Bool} {n : Nat} (h : ∀ k, k < n → p k = q k) (hw : ∀ k, k < n → ws.getD k 0 = ws'.getD k 0) : wnP ws p n = wnP ws' q n :=
  sg_congr fun k hk => by rw [h k hk, hw k hk]
theorem cn_congr {o : Off} {p q : Nat → Bool} {n : Nat} (h : ∀ k, k < n → p k = q k) : cnP p o n = cnP q o n := sg_congr fun k hk => by rw [h k hk]
theorem rm_congr {os : List Off} {p q : Nat → Bool} {n : Nat} (h : ∀ k, k < n → p k = q k) : rmP os p n = rmP os q n :=
  sum_mem_eq fun o _ => by rw [cn_congr h]
theorem fit_set {os : List Off} {ws : List Int} {n : Nat} (h : ∀ T : List Nat, T.Nodup → (∀ x ∈ T, x < n) → (T.map fun x => ws.getD x 0).sum ≤ roomF os T) : Fit os ws n := by
  intro p
  have nd : ((List.range n).filter p).Nodup := List.nodup_range.filter _
  have lt : ∀ x ∈ (List.range n).filter p, x < n := fun x hx => List.mem_range.mp (List.mem_filter.mp hx).1
  have hp : ∀ k, k < n → decide (k ∈ (List.range n).filter p) = p k := fun k hk => by
    rw [Bool.eq_iff_iff, decide_eq_true_eq, List.mem_filter, List.mem_range]
    exact ⟨fun z => z.2, fun z => ⟨hk, z⟩⟩
  have := h _ nd lt
  rw [room_p nd lt, sum_p nd lt, wn_congr hp fun _ _ => rfl, rm_congr hp] at this
  exact this
theorem fit_use {os : List Off} {ws : List Int} {n : Nat} (F : Fit os ws n) {T : List Nat} (nd : T.Nodup) (lt : ∀ x ∈ T, x < n) : (T.map fun x => ws.getD x 0).sum ≤ roomF os T := by
  rw [room_p nd lt, sum_p nd lt]; exact F _
theorem sg_cut {f : Nat → Int} {m : Nat} : ∀ {n : Nat}, m ≤ n → sg (fun h => if h < m then f h else 0) n = sg f m
  | 0, h => by obtain rfl : m = 0 := by omega
               rfl
  | n + 1, h => by
    show sg _ n + (if n < m then f n else 0) = _
    by_cases e : m = n + 1
    · subst e
      rw [if_pos (by omega), sg_congr (g := f) fun k hk => if_pos (by omega)]; rfl
    · rw [sg_cut (n := n) (by omega), if_neg (by omega)]; omega
theorem sg_nn {f : Nat → Int} (h : ∀ k, 0 ≤ f k) : ∀ n, 0 ≤ sg f n
  | 0 => Int.le_refl _
  | n + 1 => by have := sg_nn h n; have := h n; show 0 ≤ sg f n + f n; omega
theorem sg_len {f : Nat → Int} (h : ∀ k, 0 ≤ f k) {m : Nat} : ∀ {n : Nat}, m ≤ n → sg f m ≤ sg f n
  | 0, e => by obtain rfl : m = 0 := by omega
               exact Int.le_refl _
  | n + 1, e => by
    by_cases c : m = n + 1
    · subst c; exact Int.le_refl _
    · have := sg_len h (n := n) (by omega : m ≤ n)
      have := h n
      show _ ≤ sg f n + f n
      omega
theorem ind_nn {c : Prop} [Decidable c] : (0 : Int) ≤ if c then 1 else 0 := by split <;> decide
theorem cn_nn {p : Nat → Bool} {o : Off} {n : Nat} : 0 ≤ cnP p o n := sg_nn (fun _ => ind_nn) n
theorem cn_len {p : Nat → Bool} {o : Off} {m n : Nat} (h : m ≤ n) : cnP p o m ≤ cnP p o n := sg_len (fun _ => ind_nn) h
theorem rm_len {os : List Off} {p : Nat → Bool} {m n : Nat} (h : m ≤ n) : rmP os p m ≤ rmP os p n :=
  sum_mem_le fun o _ => by have := cn_len (p := p) (o := o) h; omega
theorem fit_le {os : List Off} {ws : List Int} {m n : Nat} (h : m ≤ n) (F : Fit os ws n) : Fit os ws m := by
  intro p
  have := F fun k => decide (k < m) && p k
  have e1 : wnP ws (fun k => decide (k < m) && p k) n = wnP ws p m := by
    unfold wnP
    rw [← sg_cut h]
    refine sg_congr fun k _ => ?_
    by_cases c : k < m <;> simp [c]
  have e2 : ∀ o, cnP (fun k => decide (k < m) && p k) o n = cnP p o m := fun o => by
    unfold cnP
    rw [← sg_cut h]
    refine sg_congr fun k _ => ?_
    by_cases c : k < m <;> simp [c]
  rw [e1] at this
  unfold rmP at this ⊢
  simp only [e2] at this
  exact this
theorem sg_end {f : Nat → Int} {m : Nat} (h : ∀ k, m ≤ k → f k = 0) : ∀ {n : Nat}, m ≤ n → sg f n = sg f m
  | 0, e => by obtain rfl : m = 0 := by omega
               rfl
  | n + 1, e => by
    by_cases c : m = n + 1
    · rw [c]
    · show sg f n + f n = _
      rw [sg_end h (n := n) (by omega), h n (by omega)]; omega
theorem fit_len {os : List Off} {ws : List Int} (F : Fit os ws ws.length) (n : Nat) : Fit os ws n := by
  by_cases h : n ≤ ws.length
  · exact fit_le h F
  · intro p
    have e : wnP ws p n = wnP ws p ws.length := sg_end (fun k hk => by
      rw [List.getD_eq_getElem?_getD, List.getElem?_eq_none hk]; split <;> rfl) (by omega)
    rw [e]
    exact Int.le_trans (F p) (rm_len (by omega))
def hourF (os : List Off) (ws : List Int) : Int := match servedF os ws with
  | .inl _ => 60
  | .inr (h, _) => (h : Int)
/-- what is asked of wants and gathers -/
def Dy0 (os : List Off) (ws : List Int) : Prop := (∀ w ∈ ws, 0 ≤ w) ∧ (∀ o ∈ os, 0 ≤ o.2.2) ∧ ws.length ≤ 60
theorem hour_is {os : List Off} {ws : List Int} (D : Dy0 os ws) : (hourF os ws = 60 ∧ Fit os ws ws.length) ∨ ∃ n : Nat, hourF os ws = (n : Int) ∧ n < ws.length ∧ Fit os ws n ∧ ¬ Fit os ws (n + 1) := by
  have ok := served_ok D.1 D.2.1
  unfold hourF
  cases e : servedF os ws with
  | inl rows =>
    have O := ok.1 rows e
    refine .inl ⟨rfl, fit_set fun T nd lt => ?_⟩
    have h1 := hall_room O.ri O.us nd (fun h hh => by have := lt h hh; rw [O.len]; exact this)
    have h2 : (T.map (rlen rows)).sum = (T.map fun x => ws.getD x 0).sum := sum_congr fun x hx => O.full x (lt x hx)
    omega
  | inr hS =>
    obtain ⟨h, S⟩ := hS
    have L := ok.2 h S e
    refine .inr ⟨h, rfl, L.lt, fit_set L.ahead, fun F => ?_⟩
    have := fit_use F L.nd fun x hx => Nat.lt_succ_of_le (L.le x hx)
    have := L.more
    omega
theorem hour_bd {os : List Off} {ws : List Int} (D : Dy0 os ws) : 0 ≤ hourF os ws ∧ hourF os ws ≤ 60 := by
  have := D.2.2
  rcases hour_is D with ⟨e, _⟩ | ⟨n, e, h, _⟩ <;> omega
theorem hour_all {os : List Off} {ws : List Int} (D : Dy0 os ws) : hourF os ws = 60 ↔ Fit os ws ws.length := by
  have := D.2.2
  rcases hour_is D with ⟨e, F⟩ | ⟨n, e, h, _, F⟩
  · exact ⟨fun _ => F, fun _ => e⟩
  · exact ⟨fun z => by omega, fun z => absurd (fit_le h z) F⟩
theorem hour_mono {os os' : List Off} {ws ws' : List Int} (D : Dy0 os ws) (D' : Dy0 os' ws') (l : ws'.length = ws.length) (h : ∀ n, n ≤ ws.length → Fit os ws n → Fit os' ws' n) : hourF os ws ≤ hourF os' ws' := by
  rcases hour_is D' with ⟨e', _⟩ | ⟨n', e', h', _, F'⟩
  · have := (hour_bd D).2; omega
  · rcases hour_is D with ⟨e, F⟩ | ⟨n, e, hn, F, _⟩
    · exact absurd (h (n' + 1) (by omega) (fit_le (by omega) F)) F'
    · by_cases c : n ≤ n'
      · omega
      · exact absurd (h (n' + 1) (by omega) (fit_le (by omega) F)) F'
theorem hour_same {os os' : List Off} {ws : List Int} (D : Dy0 os ws) (D' : Dy0 os' ws) (h : ∀ p n, n ≤ ws.length → rmP os p n = rmP os' p n) : hourF os' ws = hourF os ws := by
  have h1 := hour_mono D D' rfl fun n hn F p => by rw [← h p n hn]; exact F p
  have h2 := hour_mono D' D rfl fun n hn F p => by rw [h p n hn]; exact F p
  omega
theorem sum_perm' {xs ys : List Int} (p : xs.Perm ys) : xs.sum = ys.sum := by
  induction p with
  | nil => rfl
  | cons x _ ih => rw [List.sum_cons, List.sum_cons, ih]
  | swap x y l => simp only [List.sum_cons]; omega
  | trans _ _ h1 h2 => rw [h1, h2]
theorem rm_perm {os os' : List Off} {p : Nat → Bool} {n : Nat} (h : os.Perm os') : rmP os p n = rmP os' p n := sum_perm' (h.map _)
theorem rm_app {os os' : List Off} {p : Nat → Bool} {n : Nat} : rmP (os ++ os') p n = rmP os p n + rmP os' p n := by
  unfold rmP; rw [List.map_append, List.sum_append]
theorem hour_perm {os os' : List Off} {ws : List Int} (D : Dy0 os ws) (h : os.Perm os') : hourF os' ws = hourF os ws :=
  hour_same D ⟨D.1, fun o ho => D.2.1 o (h.mem_iff.mpr ho), D.2.2⟩ fun _ _ _ => rm_perm h
theorem hour_idle {os : List Off} {ws : List Int} {a : Int} (D : Dy0 os ws) : hourF (os ++ [((a, 7, 0) : Off), ((((ws.length : Nat) : Int), ((ws.length : Nat) : Int) + 9, 3) : Off)]) ws = hourF os ws := by
  refine hour_same D ⟨D.1, fun o ho => ?_, D.2.2⟩ fun p n hn => ?_
  · rcases List.mem_append.mp ho with h | h
    · exact D.2.1 o h
    · simp only [List.mem_cons, List.not_mem_nil, or_false] at h
      rcases h with rfl | rfl
      · exact Int.le_refl _
      · show (0 : Int) ≤ 3; decide
  · rw [rm_app]
    have e : cnP p (((ws.length : Nat) : Int), ((ws.length : Nat) : Int) + 9, 3) n = 0 := sg_zero fun k hk => by
      refine if_neg fun z => ?_
      have := z.2
      unfold inO at this
      rw [Bool.and_eq_true_iff, decide_eq_true_eq, decide_eq_true_eq] at this
      have := this.1
      have : ((ws.length : Nat) : Int) ≤ (k : Int) := this
      omega
    have n0 : 0 ≤ cnP p (a, 7, 0) n := cn_nn
    unfold rmP
    simp only [List.map_cons, List.map_nil, List.sum_cons, List.sum_nil, e]
    omega
theorem sg_shift {f : Nat → Int} {b : Nat} : ∀ n, sg f (b + n) = sg f b + sg (fun h => f (b + h)) n
  | 0 => by show sg f b = sg f b + 0; omega
  | n + 1 => by
    show sg f (b + n) + f (b + n) = sg f b + (sg _ n + f (b + n))
    rw [sg_shift n]; omega
theorem sg_rev {f : Nat → Int} : ∀ n, sg (fun h => f (n - 1 - h)) n = sg f n
  | 0 => rfl
  | n + 1 => by
    have e : sg (fun h => f (n + 1 - 1 - h)) (1 + n) = sg (fun h => f (n + 1 - 1 - h)) 1 + sg (fun h => f (n + 1 - 1 - (1 + h))) n := sg_shift n
    have e1 : sg (fun h => f (n + 1 - 1 - h)) 1 = f n := by show 0 + f (n + 1 - 1 - 0) = f n; rw [Int.zero_add]; rfl
    have e2 : sg (fun h => f (n + 1 - 1 - (1 + h))) n = sg (fun h => f (n - 1 - h)) n := sg_congr fun k _ => by congr 1; omega
    rw [Nat.add_comm 1 n] at e
    rw [e, e1, e2, sg_rev n]
    show f n + sg f n = sg f n + f n
    omega
def later (b : Int) (o : Off) : Off := (o.1 + b, o.2.1 + b, o.2.2)
theorem fit_later {os : List Off} {ws : List Int} {b n : Nat} : Fit (os.map (later b)) (List.replicate b 0 ++ ws) (b + n) ↔ Fit os ws n := by
  have gw : ∀ h, (List.replicate b (0 : Int) ++ ws).getD (b + h) 0 = ws.getD h 0 := fun h => by
    rw [List.getD_eq_getElem?_getD, List.getD_eq_getElem?_getD, List.getElem?_append_right (by rw [List.length_replicate]; omega), List.length_replicate, Nat.add_sub_cancel_left]
  have g0 : ∀ h, h < b → (List.replicate b (0 : Int) ++ ws).getD h 0 = 0 := fun h hh => by
    rw [List.getD_eq_getElem?_getD, List.getElem?_append_left (by rw [List.length_replicate]; omega), List.getElem?_replicate, if_pos hh]; rfl
  have ew : ∀ p : Nat → Bool, wnP (List.replicate b 0 ++ ws) p (b + n) = wnP ws (fun h => p (b + h)) n := fun p => by
    unfold wnP
    rw [sg_shift, sg_zero fun k hk => by rw [g0 k hk]; split <;> rfl, Int.zero_add]
    exact sg_congr fun k _ => by rw [gw]
  have io : ∀ (o : Off) (h : Nat), inO (later b o) ((b + h : Nat) : Int) = inO o ((h : Nat) : Int) := fun o h => by
    unfold inO later
    rw [Bool.eq_iff_iff, Bool.and_eq_true_iff, Bool.and_eq_true_iff]
    simp only [decide_eq_true_eq]
    omega
  have ec : ∀ (p : Nat → Bool) (o : Off), cnP p (later b o) (b + n) = cnP p (later b o) b + cnP (fun h => p (b + h)) o n := fun p o => by
    unfold cnP
    rw [sg_shift]
    congr 1
    exact sg_congr fun k _ => by rw [io]
  have er : ∀ p : Nat → Bool, rmP os (fun h => p (b + h)) n ≤ rmP (os.map (later b)) p (b + n) := fun p => by
    unfold rmP
    rw [List.map_map]
    refine sum_mem_le fun o _ => ?_
    show _ ≤ min o.2.2 (cnP p (later b o) (b + n))
    rw [ec]
    have := cn_nn (p := p) (o := later b o) (n := b)
    omega
  constructor
  · intro F p
    have := F fun h => decide (b ≤ h) && p (h - b)
    rw [ew] at this
    have e1 : wnP ws (fun h => decide (b ≤ b + h) && p (b + h - b)) n = wnP ws p n := wn_congr (fun k _ => by simp) fun _ _ => rfl
    rw [e1] at this
    refine Int.le_trans this ?_
    unfold rmP
    rw [List.map_map]
    refine sum_mem_le fun o _ => ?_
    show min o.2.2 (cnP _ (later b o) (b + n)) ≤ _
    have e2 : cnP (fun h => decide (b ≤ h) && p (h - b)) (later b o) b = 0 := sg_zero fun k hk => if_neg fun z => by
      have := (Bool.and_eq_true_iff.mp z.1).1
      have := of_decide_eq_true this
      omega
    have e3 : cnP (fun h => decide (b ≤ b + h) && p (b + h - b)) o n = cnP p o n := cn_congr fun k _ => by simp
    rw [ec, e2, e3, Int.zero_add]
    exact Int.le_refl _
  · intro F p
    rw [ew]
    exact Int.le_trans (F _) (er p)
theorem hour_later {os : List Off} {ws : List Int} {b : Nat} (D : Dy0 os ws) (D' : Dy0 (os.map (later b)) (List.replicate b 0 ++ ws)) : hourF (os.map (later b)) (List.replicate b 0 ++ ws) = if hourF os ws = 60 then 60 else hourF os ws + b := by
  have l : (List.replicate b (0 : Int) ++ ws).length = b + ws.length := by rw [List.length_append, List.length_replicate]
  have l60 := D'.2.2
  rw [l] at l60
  rcases hour_is D with ⟨e, F⟩ | ⟨n, e, hn, F, G⟩
  · rw [if_pos e, hour_all D', l, fit_later]; exact F
  · rw [if_neg (by omega), e]
    rcases hour_is D' with ⟨_, F'⟩ | ⟨m, e', hm, F', G'⟩
    · rw [l, fit_later] at F'
      exact absurd (fit_le hn F') G
    · have f1 : Fit (os.map (later b)) (List.replicate b 0 ++ ws) (b + n) := fit_later.mpr F
      have f2 : ¬ Fit (os.map (later b)) (List.replicate b 0 ++ ws) (b + (n + 1)) := fun z => G (fit_later.mp z)
      have h1 : b + n ≤ m := by
        by_cases c : b + n ≤ m
        · exact c
        · exact absurd (fit_le (by omega) f1) G'
      have h2 : m ≤ b + n := by
        by_cases c : m ≤ b + n
        · exact c
        · exact absurd (fit_le (by omega) F') f2
      omega
def turnO (o : Off) : Off := (24 - o.2.1, 24 - o.1, o.2.2)
def turnW (ws : List Int) : List Int := (List.replicate 24 0 ++ ws.reverse).drop ws.length
theorem turnW_len {ws : List Int} : (turnW ws).length = 24 := by
  unfold turnW
  rw [List.length_drop, List.length_append, List.length_replicate, List.length_reverse]; omega
theorem turnW_at {ws : List Int} (l : ws.length ≤ 24) {k : Nat} (hk : k < 24) : (turnW ws).getD (23 - k) 0 = ws.getD k 0 := by
  unfold turnW
  rw [List.getD_eq_getElem?_getD, List.getD_eq_getElem?_getD, List.getElem?_drop]
  by_cases c : k < ws.length
  · rw [List.getElem?_append_right (by rw [List.length_replicate]; omega), List.length_replicate, List.getElem?_reverse (by omega)]
    congr 2
    omega
  · rw [List.getElem?_append_left (by rw [List.length_replicate]; omega), List.getElem?_replicate, if_pos (by omega), List.getElem?_eq_none (by omega)]; rfl
theorem fit_turn {os : List Off} {ws : List Int} (l : ws.length ≤ 24) : Fit (os.map turnO) (turnW ws) 24 ↔ Fit os ws 24 := by
  have ew : ∀ p : Nat → Bool, wnP (turnW ws) p 24 = wnP ws (fun h => p (23 - h)) 24 := fun p => by
    unfold wnP
    rw [← sg_rev]
    refine sg_congr fun k hk => ?_
    show (if p (23 - k) = true then (turnW ws).getD (23 - k) 0 else 0) = _
    rw [turnW_at l hk]
  have io : ∀ (o : Off) (h : Nat), h < 24 → inO (turnO o) ((23 - h : Nat) : Int) = inO o ((h : Nat) : Int) := fun o h hh => by
    unfold inO turnO
    rw [Bool.eq_iff_iff, Bool.and_eq_true_iff, Bool.and_eq_true_iff]
    simp only [decide_eq_true_eq]
    omega
  have ec : ∀ (p : Nat → Bool) (o : Off), cnP p (turnO o) 24 = cnP (fun h => p (23 - h)) o 24 := fun p o => by
    unfold cnP
    rw [← sg_rev]
    refine sg_congr fun k hk => ?_
    show (if p (23 - k) = true ∧ inO (turnO o) ((23 - k : Nat) : Int) = true then (1 : Int) else 0) = _
    rw [io o k hk]
  have er : ∀ p : Nat → Bool, rmP (os.map turnO) p 24 = rmP os (fun h => p (23 - h)) 24 := fun p => by
    unfold rmP
    rw [List.map_map]
    refine sum_mem_eq fun o _ => ?_
    show min o.2.2 (cnP p (turnO o) 24) = _
    rw [ec]
  constructor
  · intro F p
    have := F fun h => p (23 - h)
    rw [ew, er] at this
    have e : ∀ k, k < 24 → p (23 - (23 - k)) = p k := fun k hk => by congr 1; omega
    rw [wn_congr (ws' := ws) e fun _ _ => rfl, rm_congr e] at this
    exact this
  · intro F p
    rw [ew, er]; exact F _
theorem hour_turn {os : List Off} {ws : List Int} (D : Dy0 os ws) (D' : Dy0 (os.map turnO) (turnW ws)) (l : ws.length ≤ 24) : hourF (os.map turnO) (turnW ws) = 60 ↔ hourF os ws = 60 := by
  rw [hour_all D, hour_all D', turnW_len, fit_turn l]
  exact ⟨fun F => fit_le l F, fun F => fit_len F 24⟩
theorem cn_le {p : Nat → Bool} {a b g : Int} (h : a ≤ b) (n : Nat) : cnP p (a, b, g) n ≤ b - a := by
  have key : ∀ n : Nat, cnP p (a, b, g) n ≤ max 0 (min ((n : Int) - a) (b - a)) := by
    intro n
    induction n with
    | zero => show (0 : Int) ≤ _; omega
    | succ n ih =>
      show cnP p (a, b, g) n + (if p n = true ∧ inO (a, b, g) ((n : Nat) : Int) = true then (1 : Int) else 0) ≤ _
      by_cases c : p n = true ∧ inO (a, b, g) ((n : Nat) : Int) = true
      · rw [if_pos c]
        have := c.2
        unfold inO at this
        rw [Bool.and_eq_true_iff, decide_eq_true_eq, decide_eq_true_eq] at this
        have h1 : a ≤ (n : Int) := this.1
        have h2 : (n : Int) < b := this.2
        omega
      · rw [if_neg c]
        omega
  have := key n
  omega
theorem min_whole {p : Nat → Bool} {a b : Int} (h : a ≤ b) (n : Nat) : min (b - a) (cnP p (a, b, b - a) n) = cnP p (a, b, b - a) n := by
  have := cn_le (p := p) (g := b - a) h n
  omega
theorem cn_two {p : Nat → Bool} {a b c g g' g'' : Int} (h1 : a ≤ c) (h2 : c ≤ b) (n : Nat) : cnP p (a, b, g) n = cnP p (a, c, g') n + cnP p (c, b, g'') n := by
  unfold cnP
  rw [← sg_add]
  refine sg_congr fun k _ => ?_
  unfold inO
  by_cases hp : p k = true
  · simp only [hp, true_and, Bool.and_eq_true, decide_eq_true_eq]
    by_cases c1 : a ≤ (k : Int) <;> by_cases c2 : (k : Int) < b <;> by_cases c3 : (k : Int) < c <;> by_cases c4 : c ≤ (k : Int) <;> simp [c1, c2, c3, c4] <;> omega
  · simp [hp]
theorem rm_one {o : Off} {p : Nat → Bool} {n : Nat} : rmP [o] p n = min o.2.2 (cnP p o n) := by
  show min o.2.2 (cnP p o n) + 0 = _
  omega
theorem rm_cut {A B : List Off} {a b c : Int} (h1 : a ≤ c) (h2 : c ≤ b) {p : Nat → Bool} {n : Nat} : rmP (A ++ [(a, b, b - a)] ++ B) p n = rmP (A ++ [(a, c, c - a), (c, b, b - c)] ++ B) p n := by
  have e : ([(a, c, c - a), (c, b, b - c)] : List Off) = [(a, c, c - a)] ++ [(c, b, b - c)] := rfl
  rw [rm_app, rm_app, rm_app, rm_app, e, rm_app, rm_one, rm_one, rm_one]
  show _ + min (b - a) _ + _ = _ + (min (c - a) _ + min (b - c) _) + _
  rw [min_whole (by omega), min_whole h1, min_whole h2, cn_two (g' := c - a) (g'' := b - c) h1 h2]
theorem set_parts {α : Type} {l : List α} {i : Nat} {x : α} (h : i < l.length) : l.set i x = l.take i ++ [x] ++ l.drop (i + 1) := by
  rw [List.set_eq_take_append_cons_drop, if_pos h, List.append_assoc]; rfl
theorem rm_more {A B : List Off} {o : Off} {p : Nat → Bool} {n : Nat} : rmP (A ++ [o] ++ B) p n ≤ rmP (A ++ [(o.1, o.2.1, o.2.2 + 1)] ++ B) p n := by
  rw [rm_app, rm_app, rm_app, rm_app, rm_one, rm_one]
  show _ + min o.2.2 _ + _ ≤ _ + min (o.2.2 + 1) (cnP p o n) + _
  omega
theorem wn_set {ws : List Int} {j : Nat} {v : Int} (h : ∀ x, ws.getD j 0 = x → v ≤ x) {p : Nat → Bool} {n : Nat} : wnP (ws.set j v) p n ≤ wnP ws p n := by
  refine sg_le fun k _ => ?_
  split
  · rw [List.getD_eq_getElem?_getD, List.getD_eq_getElem?_getD, List.getElem?_set]
    split
    · rename_i e
      subst e
      split
      · show v ≤ _
        rw [← List.getD_eq_getElem?_getD]
        exact h _ rfl
      · rename_i c
        rw [List.getElem?_eq_none (by omega)]; exact Int.le_refl _
    · exact Int.le_refl _
  · exact Int.le_refl _
theorem hour_fewer {os : List Off} {ws : List Int} {j : Nat} {v : Int} (D : Dy0 os ws) (D' : Dy0 os (ws.set j v)) (h : ∀ x, ws.getD j 0 = x → v ≤ x) : hourF os ws ≤ hourF os (ws.set j v) :=
  hour_mono D D' (List.length_set ..) fun n _ F p => Int.le_trans (wn_set h) (F p)
theorem hour_behind {os : List Off} {ws : List Int} {j : Nat} {v : Int} (D : Dy0 os ws) (D' : Dy0 os (ws.set j v)) (h : hourF os ws < (j : Int)) (hj : j < ws.length) : hourF os (ws.set j v) = hourF os ws := by
  have l60 := D.2.2
  have ff : ∀ n, n ≤ j → (Fit os (ws.set j v) n ↔ Fit os ws n) := fun n hn => by
    have e : ∀ p, wnP (ws.set j v) p n = wnP ws p n := fun p => wn_congr (fun _ _ => rfl) fun k hk => by
      rw [List.getD_eq_getElem?_getD, List.getD_eq_getElem?_getD, List.getElem?_set_ne (by omega)]
    unfold Fit
    simp only [e]
  rcases hour_is D with ⟨e, F⟩ | ⟨n, e, hn, F, G⟩
  · omega
  · have g1 := (ff n (by omega)).mpr F
    have g2 : ¬ Fit os (ws.set j v) (n + 1) := fun z => G ((ff (n + 1) (by omega)).mp z)
    rw [e]
    rcases hour_is D' with ⟨_, F'⟩ | ⟨m, e', hm, F', G'⟩
    · rw [List.length_set] at F'
      exact absurd (fit_le hn F') g2
    · have h1 : n ≤ m := by
        by_cases c : n ≤ m
        · exact c
        · exact absurd (fit_le (by omega) g1) G'
      have h2 : m ≤ n := by
        by_cases c : m ≤ n
        · exact c
        · exact absurd (fit_le (by omega) F') g2
      omega

end Pot

namespace Pot
open PySem PySem.Spec PyProof.Rows L2
section
variable {P : Program} {w : World} {K : PySem.W.Frag} {mg : Str → Option Value} {base : Heap}
abbrev Wk : Type := Int × Str × Int × Int
def wkD (r : Wk) : PyData := .tuple [.int r.1, .str r.2.1, .int r.2.2.1, .int r.2.2.2]
theorem o5_dp {H : Hp} {v : V} {o : Off5} (h : Dp K H v (o5D o)) : ∃ a, v = .ref a ∧ SqT K H a [.int (o.1 : Nat), .int (o.2.1 : Nat), .int o.2.2.1, .int o.2.2.2.1, .int o.2.2.2.2] := by
  cases h with
  | tup h a =>
    cases a with
    | cons h1 t => cases t with
      | cons h2 t => cases t with
        | cons h3 t => cases t with
          | cons h4 t => cases t with
            | cons h5 t => cases t; cases h1; cases h2; cases h3; cases h4; cases h5; exact ⟨_, rfl, h⟩
/-- of a row: hour, pot, number; hour, team -/
def k3 (r : Wk) : Int × Int × Int := (r.1, r.2.2.1, r.2.2.2)
def k2 (r : Wk) : Int × Str := (r.1, r.2.1)
def o50 : Off5 := (0, 0, 0, 0, 0)
def r3F (o5 : List Off5) (rows : List (List Nat)) (n : Nat) : List (Int × Int × Int) := (List.range n).flatMap fun i => (rows.getD i []).map fun m => (((i : Nat) : Int), (((o5.getD m o50).1 : Nat) : Int), (((o5.getD m o50).2.1 : Nat) : Int))
def r2F (z : Str) (tms : List Tm) (n : Nat) : List (Int × Str) := (List.range n).flatMap fun i => (wF z tms i).map fun y => (((i : Nat) : Int), y)
/-- a row's team wants the colour at its hour, its turn is one of the offers it's handed then -/
def Cp (o5 : List Off5) (rows : List (List Nat)) (z : Str) (tms : List Tm) (r : Wk) : Prop := ∃ i m : Nat, r.1 = ((i : Nat) : Int) ∧ i < rows.length ∧ r.2.1 ∈ wF z tms i ∧ m ∈ rows.getD i [] ∧ r.2.2.1 = (((o5.getD m o50).1 : Nat) : Int) ∧ r.2.2.2 = (((o5.getD m o50).2.1 : Nat) : Int)
/-- the rows of a colour, as they're told -/
def r1F (o5 : List Off5) (rows : List (List Nat)) (z : Str) (tms : List Tm) (i : Nat) : List Wk := ((srtS (wF z tms i)).zip (rows.getD i [])).map fun p => (((i : Nat) : Int), p.1, (((o5.getD p.2 o50).1 : Nat) : Int), (((o5.getD p.2 o50).2.1 : Nat) : Int))
def rsF (o5 : List Off5) (rows : List (List Nat)) (z : Str) (tms : List Tm) (n : Nat) : List Wk := (List.range n).flatMap (r1F o5 rows z tms)
theorem rs_one (o5 : List Off5) (rows : List (List Nat)) (z : Str) (tms : List Tm) (n : Nat) : rsF o5 rows z tms (n + 1) = rsF o5 rows z tms n ++ r1F o5 rows z tms n := by
  unfold rsF
  rw [List.range_succ, List.flatMap_append]; simp
theorem r3_one (o5 : List Off5) (rows : List (List Nat)) (n : Nat) : r3F o5 rows (n + 1) = r3F o5 rows n ++ (rows.getD n []).map fun m => (((n : Nat) : Int), (((o5.getD m o50).1 : Nat) : Int), (((o5.getD m o50).2.1 : Nat) : Int)) := by
  unfold r3F
  rw [List.range_succ, List.flatMap_append]; simp
theorem r2_one (z : Str) (tms : List Tm) (n : Nat) : r2F z tms (n + 1) = r2F z tms n ++ (wF z tms n).map fun y => (((n : Nat) : Int), y) := by
  unfold r2F
  rw [List.range_succ, List.flatMap_append]; simp
abbrev s_rows_of : Stmt := topS 15
def n_rows_of : List Str := ["teams", "colour", "offers", "numbers", "hour", "row", "team", "at"]
theorem sc_rows_of : FnScope n_rows_of ["teams", "colour", "offers", "numbers"] (defScope s_rows_of) := ⟨rfl, rfl, rfl, by decide +kernel, rfl, by decide +kernel, by decide +kernel⟩
def spRowsOf (K : PySem.W.Frag) : Sp := fun vs H Q _ => ∃ (A O R : Addr) (xs us : List V) (tms : List Tm) (z : Str) (o5 : List Off5) (as : List Addr) (rows : List (List Nat)), vs = [.ref A, .str z, .ref O, .ref R] ∧ SqL K H A xs ∧ DpAll K H xs (tms.map tmD) ∧ tms.length ≤ 20 ∧ SqL K H O us ∧ DpAll K H us (o5.map o5D) ∧ RowsH H R as rows ∧ rows.length ≤ 60 ∧ (∀ x, (rows.getD x []).length ≤ 60 ∧ ∀ n ∈ rows.getD x [], n < o5.length) ∧ (∀ i, i < rows.length → (rows.getD i []).length = cw z tms i) ∧
  ∀ (H' : Hp) (L : Addr) (zs : List V) (rs : List Wk), Same H H' → H L = none → H' L = some (.lst zs) → DpAll K H' zs (rs.map wkD) → rs.length ≤ 1200 → rs.map k3 = r3F o5 rows rows.length → (rs.map k2).Perm (r2F z tms rows.length) → (∀ r ∈ rs, Cp o5 rows z tms r) → rs = rsF o5 rows z tms rows.length → Q (.ref L) H'
set_option maxHeartbeats 2000000 in
theorem ok_rowsof {f : Addr} {fd : FuncData} {k : Nat} (F : Fun K "rows_of" "rows_of" s_rows_of f fd) (T : Txt mg) (c_wanting : Cl P w K mg base (k + 1) "wanting" (spWanting K)) : FnOk P w K mg base CX0 (k + 2) f fd ["teams", "colour", "offers", "numbers"] (spRowsOf K) := by
  refine F.ok sc_rows_of (fun vs H Q E h => ?_) (fun cdv A outer s H vs Q E hr h => ?_)
  · obtain ⟨A, O, R, xs, us, tms, z, o5, as, rows, rfl, _⟩ := h
    rfl
  · obtain ⟨B, O, R, xs, us, tms, z, o5, as, rows, rfl, hs, da, lt, hO, dO, hR, lR, bR, full, q⟩ := h
    have nd := sc_rows_of.nd
    refine ⟨_, (pss_one (ps_ret (pe_lc2 (own := [("hour", 4), ("row", 5), ("team", 6), ("at", 7)]) (vs1 := [6, 7]) rfl nd (ki_enum (K := K) (by rfl) T.enumerate (pa_cons (pv 3) pa_nil)) (blkOk_by (N := n_rows_of) (sc := defScope s_rows_of) (by decide +kernel)) (by decide) (fun _ _ _ _ _ => (kg_tup (K := K) (n := 2) (pgs_cons (pg_name (i := 4) nd rfl (.inl rfl)) (pgs_cons (pg_name (i := 5) nd rfl (.inl rfl)) pgs_nil)))) (fun _ _ _ _ _ => pts_nil) (fun _ _ _ _ _ => (ki_zip (K := K) (by rfl) T.zip (pa_cons (pe_cl c_wanting hr (by omega) (by rfl) (pa_cons (pv 0) (pa_cons (pv 1) (pa_cons (pv 4) pa_nil)))) (pa_cons (pv 5) pa_nil)))) (fun _ _ _ _ _ => (kg_tup (K := K) (n := 2) (pgs_cons (pg_name (i := 6) nd rfl (.inl rfl)) (pgs_cons (pg_name (i := 7) nd rfl (.inl rfl)) pgs_nil)))) (fun _ _ _ _ _ => pts_nil) (fun _ _ _ _ _ => (pe_tup (pa_cons (pv 4) (pa_cons (pv 6) (pa_cons (pe_ix (kx_tup (K := K)) (pe_ix (kx_list (K := K)) (pv 2) (pv 7) (fun _ _ => rfl)) pe_int (fun _ _ => rfl)) (pa_cons (pe_ix (kx_tup (K := K)) (pe_ix (kx_list (K := K)) (pv 2) (pv 7) (fun _ _ => rfl)) pe_int (fun _ _ => rfl)) pa_nil))))))))), ?_⟩
    have lus : us.length = o5.length := dpAll_map_len dO
    refine ⟨_, rfl, R, _, rfl, SqL.of hR.r, fun D nD => ?_⟩
    have RD : R ≠ D := ne_of_none hR.r nD
    refine loop_it (walk_enum (xs := as.map V.ref)) (fun i Hx => Same H Hx ∧ ∃ us2 rs, Hx D = some (.lst us2) ∧ DpAll K (off Hx [D]) us2 (List.map wkD rs) ∧ rs.length ≤ 20 * i ∧ rs.map k3 = r3F o5 rows i ∧ (rs.map k2).Perm (r2F z tms i) ∧ (∀ r ∈ rs, Cp o5 rows z tms r) ∧ rs = rsF o5 rows z tms i) ⟨same_upd nD, [], [], upd_same, .nil, Nat.le_refl _, rfl, .refl _, (fun r h => (List.not_mem_nil h).elim), rfl⟩ (fun i Hx _ h => SqL.of (h.1 _ _ hR.r)) ?_ ?_
    · rintro i x H1 H2 hi ⟨s1, us2, rs, hD, du, lrs, e3, p2, cp, ers⟩ ⟨t, x1, x2, rfl, nt, rfl, g1, g2⟩
      cases g1
      replace g2 : (as.map V.ref)[i]? = some x2 := g2
      rw [List.length_map, hR.l] at hi
      rw [List.getElem?_map] at g2
      obtain ⟨a4, ga4, rfl⟩ := Option.map_eq_some_iff.mp g2
      have h4 := hR.a i a4 ga4
      have st := same_upd (o := .tup [.int (i : Nat), .ref a4]) nt
      have ft : upd H1 t (.tup [.int (i : Nat), .ref a4]) t = _ := upd_same
      have hD := st _ _ hD
      have du := dpAll_same (sm_put (S := [D]) (o := .tup [.int (i : Nat), .ref a4]) nt) du
      have s1 := s1.trans st
      generalize upd H1 t (.tup [.int (i : Nat), .ref a4]) = H2 at ft hD du s1 ⊢
      refine ⟨t, _, rfl, .inl (.inl ft), rfl, _, _, rfl, _, _, rfl, rfl, rfl, tYes_at ?_⟩
      rw [if_pos rfl]
      clear ft nt st
      refine ⟨_, rfl, _, rfl, _, rfl, B, xs, tms, z, i, rfl, s1.seq hs, dpAll_same s1 da, lt, fun H3 L ys s3 nL hL ly eys => ?_⟩
      have pys : ys.Perm (wF z tms i) := by rw [eys]; exact List.mergeSort_perm _ _
      have lys : ys.length ≤ 20 := by rw [ly]; exact Nat.le_trans (cw_le _ _ _) lt
      have hD3 := s3 _ _ hD
      have LD : L ≠ D := fun e => by rw [e] at nL; rw [hD] at nL; cases nL
      have du3 := dpAll_same (sm_of (S := [D]) s3) du
      have s3 := s1.trans s3
      clear hD du
      obtain ⟨br1, br2⟩ := bR i
      refine ⟨_, rfl, L, a4, ys.map V.str, (rows.getD i []).map nV, rfl, .inl ⟨SqL.of hL, SqL.of (s3 _ _ h4), ?_⟩⟩
      refine loop_it (walk_zip (xs := ys.map V.str) (ys := (rows.getD i []).map nV) (n := min ys.length (rows.getD i []).length) (by rw [List.length_map, List.length_map])) (fun j Hx => Same H Hx ∧ Hx L = some (.lst (ys.map V.str)) ∧ ∃ us2 rs, Hx D = some (.lst us2) ∧ DpAll K (off Hx [D]) us2 (List.map wkD rs) ∧ rs.length ≤ 20 * i + j ∧ rs.map k3 = r3F o5 rows i ++ ((rows.getD i []).take j).map (fun m => (((i : Nat) : Int), (((o5.getD m o50).1 : Nat) : Int), (((o5.getD m o50).2.1 : Nat) : Int))) ∧ (rs.map k2).Perm (r2F z tms i ++ (ys.take j).map fun y => (((i : Nat) : Int), y)) ∧ (∀ r ∈ rs, Cp o5 rows z tms r) ∧ rs = rsF o5 rows z tms i ++ (r1F o5 rows z tms i).take j) ⟨s3, hL, us2, rs, hD3, du3, lrs, by rw [e3]; simp, by simpa using p2, cp, by rw [ers, List.take_zero, List.append_nil]⟩ (fun j Hx _ h => ⟨SqL.of h.2.1, SqL.of (h.1 _ _ h4)⟩) ?_ ?_
      · clear hL hD3 du3 s3 lrs e3 p2 cp ers
        rintro j x H4 H5 hj ⟨s4, hL, us2, rs, hD, du, lrs, e3, p2, cp, ers⟩ ⟨u, x1, x2, rfl, nu, rfl, g1, g2⟩
        replace g1 : (ys.map V.str)[j]? = some x1 := g1
        replace g2 : ((rows.getD i []).map nV)[j]? = some x2 := g2
        rw [List.getElem?_map] at g1 g2
        obtain ⟨y, gy, rfl⟩ := Option.map_eq_some_iff.mp g1
        obtain ⟨n, gn, rfl⟩ := Option.map_eq_some_iff.mp g2
        have hn := br2 n (List.mem_of_getElem? gn)
        obtain ⟨vo, gvo⟩ : ∃ vo, us[n]? = some vo := ⟨us[n]'(by omega), List.getElem?_eq_getElem (by omega)⟩
        obtain ⟨o, go, dpo⟩ := dpAll_map_at dO gvo
        obtain ⟨ao, rfl, hT⟩ := o5_dp dpo
        have st := same_upd (o := .tup [.str y, nV n]) nu
        have ft : upd H4 u (.tup [.str y, nV n]) u = _ := upd_same
        have hD := st _ _ hD
        have hL := st _ _ hL
        have du := dpAll_same (sm_put (S := [D]) (o := .tup [.str y, nV n]) nu) du
        have s4 := s4.trans st
        generalize upd H4 u (.tup [.str y, nV n]) = H6 at ft hD hL du s4 ⊢
        have hT := same_tup s4 hT
        refine ⟨u, _, rfl, .inl (.inl ft), rfl, _, _, rfl, _, _, rfl, rfl, rfl, tYes_at ?_⟩
        rw [if_pos rfl]
        refine ⟨_, rfl, _, rfl, _, rfl, _, rfl, O, _, _, _, rfl, rfl, s4.seq hO, atI_nat gvo, ao, _, 0, _, rfl, rfl, hT, rfl, _, rfl, _, rfl, O, _, _, _, rfl, rfl, s4.seq hO, atI_nat gvo, ao, _, 1, _, rfl, rfl, hT, rfl, (by show 4 ≤ sizeLine; decide), fun t2 n2 => ?_⟩
        have lvD : Live [D] H6 := fun x hx e => by rw [List.mem_singleton.mp hx, hD] at e; cases e
        have gt := off_new (o := .tup [.int (i : Nat), .str y, .int (o.1 : Nat), .int (o.2.1 : Nat)]) lvD n2
        have hD := same_upd (o := .tup [.int (i : Nat), .str y, .int (o.1 : Nat), .int (o.2.1 : Nat)]) n2 _ _ hD
        have hL := same_upd (o := .tup [.int (i : Nat), .str y, .int (o.1 : Nat), .int (o.2.1 : Nat)]) n2 _ _ hL
        have du := dpAll_same (sm_put (S := [D]) (o := .tup [.int (i : Nat), .str y, .int (o.1 : Nat), .int (o.2.1 : Nat)]) n2) du
        have s4 := s4.trans (same_upd (o := .tup [.int (i : Nat), .str y, .int (o.1 : Nat), .int (o.2.1 : Nat)]) n2)
        generalize upd H6 t2 (.tup [.int (i : Nat), .str y, .int (o.1 : Nat), .int (o.2.1 : Nat)]) = H7 at gt hD hL du s4 ⊢
        have lus2 := dpAll_map_len du
        refine ⟨us2, hD, (by rw [sizeLine_eq]; omega), same_put s4 nD, (by rw [upd_ne LD]; exact hL), us2 ++ [.ref t2], rs ++ [(((i : Nat) : Int), y, ((o.1 : Nat) : Int), ((o.2.1 : Nat) : Int))], upd_same, ?_, by rw [List.length_append]; show _ + 1 ≤ _; omega, ?_, ?_, ?_, ?_⟩
        rotate_left
        · have eo : o5.getD n o50 = o := by rw [List.getD_eq_getElem?_getD, go]; rfl
          rw [List.map_append, e3, List.take_add_one, gn, List.map_append, List.append_assoc]
          have e4 : [k3 (((i : Nat) : Int), y, ((o.1 : Nat) : Int), ((o.2.1 : Nat) : Int))] = [(((i : Nat) : Int), (((o5.getD n o50).1 : Nat) : Int), (((o5.getD n o50).2.1 : Nat) : Int))] := by rw [eo]; rfl
          exact congrArg (fun q => r3F o5 rows i ++ (_ ++ q)) e4
        · rw [List.map_append, List.take_add_one, gy, List.map_append, ← List.append_assoc]
          exact p2.append_right _
        · intro r hr2
          rcases List.mem_append.mp hr2 with q | q
          · exact cp r q
          · rw [List.mem_singleton.mp q]
            have eo : o5.getD n o50 = o := by rw [List.getD_eq_getElem?_getD, go]; rfl
            exact ⟨i, n, rfl, hi, pys.mem_iff.mp (List.mem_of_getElem? gy), List.mem_of_getElem? gn, by rw [eo], by rw [eo]⟩
        · have eo : o5.getD n o50 = o := by rw [List.getD_eq_getElem?_getD, go]; rfl
          have g1 : (r1F o5 rows z tms i)[j]? = some (((i : Nat) : Int), y, ((o.1 : Nat) : Int), ((o.2.1 : Nat) : Int)) := by
            unfold r1F
            have gz2 : ((srtS (wF z tms i)).zip (rows.getD i []))[j]? = some (y, n) := List.getElem?_zip_eq_some.mpr ⟨by rw [← eys]; exact gy, gn⟩
            rw [List.getElem?_map, gz2]
            show some (_, _, _, _) = _
            rw [eo]
          rw [List.take_add_one, g1, ers, List.append_assoc]; rfl
        rw [List.map_append]
        exact dpAll_same (sm_wr (by simp)) (dpAll_app' du (.cons (.tup (.inl (.inl gt)) (.cons (.int _) (.cons (.str _) (.cons (.int _) (.cons (.int _) .nil))))) .nil))
      · rintro H4 ⟨s4, hL, us2, rs, hD, du, lrs, e3, p2, cp, ers⟩
        have lf := full i hi
        rw [List.take_of_length_le (by omega)] at e3 p2
        refine ⟨s4, us2, rs, hD, du, by omega, by rw [e3, r3_one], ?_, cp, ?_⟩
        · rw [r2_one]
          exact p2.trans ((pys.map _).append_left _)
        · rw [ers, rs_one, List.take_of_length_le (by unfold r1F; rw [List.length_map, List.length_zip, ← eys]; omega)]
    · rintro H1 ⟨s1, us2, rs, hD, du, lrs, e3, p2, cp, ers⟩
      rw [List.length_map, hR.l] at lrs e3 p2 ers
      exact q _ D us2 rs s1 nD hD (dpAll_same off_sub du) (by omega) e3 p2 cp ers

/-! ### which colour lacks first, of all colours -/
def ofsF (cs : List Col) (ps : List (List Trn)) (z : Str) : List Off := match colF cs z with
  | some c => (selP c.2.2.2 c.1 ps 0).map fun o => o.2.2
  | none => []
def hzF (cs : List Col) (ps : List (List Trn)) (tms : List Tm) (z : Str) : Int := hourF (ofsF cs ps z) (cwL z tms 60)
theorem selT_g {g : Int} {z : Str} {i : Nat} : ∀ {ts : List Trn} {j : Nat}, ∀ o ∈ selT g z i ts j, o.2.2.2.2 = g
  | [], _, o, h => (List.not_mem_nil h).elim
  | t :: ts, j, o, h => by
    rcases List.mem_append.mp (show o ∈ (if t.2.1 = z then [((i, j, t.2.2.1, t.2.2.2, g) : Off5)] else []) ++ selT g z i ts (j + 1) from h) with h | h
    · split at h
      · rw [List.mem_singleton.mp h]
      · exact (List.not_mem_nil h).elim
    · exact selT_g o h
theorem selP_g {g : Int} {z : Str} : ∀ {ps : List (List Trn)} {i : Nat}, ∀ o ∈ selP g z ps i, o.2.2.2.2 = g
  | [], _, o, h => (List.not_mem_nil h).elim
  | t :: ts, j, o, h => by
    rcases List.mem_append.mp (show o ∈ selT g z j t 0 ++ selP g z ts (j + 1) from h) with h | h
    · exact selT_g o h
    · exact selP_g o h
theorem ofs_len {cs : List Col} {ps : List (List Trn)} {z : Str} (pok : PotsOk cs ps) : (ofsF cs ps z).length ≤ 100 := by
  unfold ofsF
  split
  · rw [List.length_map]
    have h1 := selP_len (g := (by assumption : Col).2.2.2) (z := (by assumption : Col).1) (ps := ps) 0 fun p hp => (pok.e p hp).1
    have := pok.l
    omega
  · exact Nat.zero_le _
theorem colF_in {cs : List Col} {z : Str} {c : Col} (h : colF cs z = some c) : c ∈ cs ∧ c.1 = z := by
  unfold colF at h
  exact ⟨List.mem_of_find?_eq_some h, of_decide_eq_true (List.find?_some (p := fun c : Col => decide (c.1 = z)) h)⟩
theorem ofs_gn {cs : List Col} {ws : List Wsh} {ps : List (List Trn)} {z : Str} (pal : PalE cs ws) : ∀ o ∈ ofsF cs ps z, 0 ≤ o.2.2 := by
  intro o ho
  unfold ofsF at ho
  cases e : colF cs z with
  | none => rw [e] at ho; exact (List.not_mem_nil ho).elim
  | some c =>
    rw [e] at ho
    obtain ⟨o5, h5, rfl⟩ := List.mem_map.mp ho
    have := selP_g o5 h5
    have := (pal.ch c (colF_in e).1).2.2.2.2.1
    show 0 ≤ o5.2.2.2.2
    omega
theorem cwL_len (z : Str) (tms : List Tm) (n : Nat) : (cwL z tms n).length = n := by unfold cwL; rw [List.length_map, List.length_range]
theorem cwL_bd {z : Str} {tms : List Tm} {n : Nat} (l : tms.length ≤ 20) : ∀ v ∈ cwL z tms n, 0 ≤ v ∧ v ≤ 20 := fun v hv => by
  obtain ⟨h, _, rfl⟩ := List.mem_map.mp hv
  have := cw_le z tms h
  omega
theorem cwL_at (z : Str) (tms : List Tm) (n h : Nat) : (cwL z tms n).getD h 0 = if h < n then ((cw z tms h : Nat) : Int) else 0 := by
  unfold cwL
  rw [List.getD_eq_getElem?_getD, List.getElem?_map]
  by_cases c : h < n
  · rw [List.getElem?_range c, if_pos c]; rfl
  · rw [List.getElem?_eq_none (by rw [List.length_range]; omega), if_neg c]; rfl
theorem zdy {cs : List Col} {ws : List Wsh} {ps : List (List Trn)} {tms : List Tm} {z : Str} {n : Nat} (pal : PalE cs ws) (l : tms.length ≤ 20) (hn : n ≤ 60) : Dy0 (ofsF cs ps z) (cwL z tms n) :=
  ⟨fun w hw => (cwL_bd l w hw).1, ofs_gn pal, by rw [cwL_len]; exact hn⟩
theorem hour_ext {os os' : List Off} {ws ws' : List Int} (D : Dy0 os ws) (D' : Dy0 os' ws') (h : ∀ n, Fit os ws n ↔ Fit os' ws' n) : hourF os ws = hourF os' ws' := by
  rcases hour_is D with ⟨e, F⟩ | ⟨n, e, hn, F, G⟩
  · rcases hour_is D' with ⟨e', F'⟩ | ⟨n', e', hn', F', G'⟩
    · rw [e, e']
    · exact absurd ((h _).mp (fit_len F _)) G'
  · rcases hour_is D' with ⟨e', F'⟩ | ⟨n', e', hn', F', G'⟩
    · exact absurd ((h _).mpr (fit_len F' _)) G
    · have h1 : n ≤ n' := by
        by_cases c : n ≤ n'
        · exact c
        · exact absurd ((h _).mp (fit_le (by omega) F)) G'
      have h2 : n' ≤ n := by
        by_cases c : n' ≤ n
        · exact c
        · exact absurd ((h _).mpr (fit_le (by omega) F')) G
      rw [e, e']
      omega
theorem cw_none {z : Str} {tms : List Tm} {n h : Nat} (H : ∀ t ∈ tms, t.2.2.2 ≤ (n : Int)) (hn : n ≤ h) : cw z tms h = 0 := by
  unfold cw
  rw [List.length_eq_zero_iff, List.filter_eq_nil_iff]
  intro t ht e
  have := H t ht
  unfold wantB at e
  rw [Bool.and_eq_true_iff, Bool.and_eq_true_iff] at e
  have := of_decide_eq_true e.2.2
  omega
theorem cwL_cut {z : Str} {tms : List Tm} {n : Nat} (H : ∀ t ∈ tms, t.2.2.2 ≤ (n : Int)) (hn : n ≤ 60) (h : Nat) : (cwL z tms n).getD h 0 = (cwL z tms 60).getD h 0 := by
  rw [cwL_at, cwL_at]
  by_cases c : h < n
  · rw [if_pos c, if_pos (by omega)]
  · rw [if_neg c, cw_none H (by omega)]
    split <;> rfl
theorem hz_cut {cs : List Col} {ws : List Wsh} {ps : List (List Trn)} {tms : List Tm} {z : Str} {n : Nat} (pal : PalE cs ws) (l : tms.length ≤ 20) (H : ∀ t ∈ tms, t.2.2.2 ≤ (n : Int)) (hn : n ≤ 60) : hourF (ofsF cs ps z) (cwL z tms n) = hzF cs ps tms z := by
  refine hour_ext (zdy pal l hn) (zdy pal l (Nat.le_refl _)) fun k => ?_
  unfold Fit
  simp only [fun p => wn_congr (p := p) (q := p) (n := k) (ws := cwL z tms n) (ws' := cwL z tms 60) (fun _ _ => rfl) fun h _ => cwL_cut H hn h]
theorem lk_cut {os : List Off} {z : Str} {tms : List Tm} {n h : Nat} {S : List Nat} (H : ∀ t ∈ tms, t.2.2.2 ≤ (n : Int)) (hn : n ≤ 60) (L : LkR os (cwL z tms n) h S) : LkR os (cwL z tms 60) h S := by
  have e : ∀ T : List Nat, (T.map fun x => (cwL z tms 60).getD x 0) = T.map fun x => (cwL z tms n).getD x 0 := fun T => List.map_congr_left fun x _ => (cwL_cut H hn x).symm
  refine ⟨by have := L.lt; rw [cwL_len] at this ⊢; omega, L.nd, L.le, L.mem, ?_, fun T nd lt => ?_⟩
  · rw [e]; exact L.more
  · rw [e]; exact L.ahead T nd lt
theorem rm_nn {os : List Off} (g : ∀ o ∈ os, 0 ≤ o.2.2) {p : Nat → Bool} {n : Nat} : 0 ≤ rmP os p n := by
  unfold rmP
  have h := sum_mem_le (os := os) (f := fun _ => 0) (g := fun o => min o.2.2 (cnP p o n)) fun o ho => by
    have := g o ho
    have := cn_nn (p := p) (o := o) (n := n)
    omega
  have e : (os.map fun _ => (0 : Int)).sum = 0 := by
    clear h g
    induction os with
    | nil => rfl
    | cons o os ih => rw [List.map_cons, List.sum_cons, ih]; rfl
  rw [e] at h
  exact h
theorem hz_none {cs : List Col} {ws : List Wsh} {ps : List (List Trn)} {tms : List Tm} {z : Str} (pal : PalE cs ws) (l : tms.length ≤ 20) (h : ∀ t ∈ tms, t.2.1 ≠ z) : hzF cs ps tms z = 60 := by
  refine (hour_all (zdy pal l (Nat.le_refl _))).mpr fun p => ?_
  have e : wnP (cwL z tms 60) p (cwL z tms 60).length = 0 := sg_zero fun k _ => by
    rw [cwL_at]
    have e0 : cw z tms k = 0 := by
      unfold cw
      rw [List.length_eq_zero_iff, List.filter_eq_nil_iff]
      intro t ht e
      unfold wantB at e
      rw [Bool.and_eq_true_iff] at e
      exact h t ht (of_decide_eq_true e.1)
    rw [e0]
    split
    · split <;> rfl
    · rfl
  rw [e]
  exact rm_nn (ofs_gn pal)
/-- an hour and a colour, the less -/
def klt (a b : Int × Str) : Prop := a.1 < b.1 ∨ (a.1 = b.1 ∧ a.2.cps.toList < b.2.cps.toList)
theorem klt_trans {a b c : Int × Str} (h1 : klt a b) (h2 : klt b c) : klt a c := by
  rcases h1 with h1 | ⟨e1, h1⟩
  · rcases h2 with h2 | ⟨e2, h2⟩
    · exact .inl (by omega)
    · exact .inl (by omega)
  · rcases h2 with h2 | ⟨e2, h2⟩
    · exact .inl (by omega)
    · exact .inr ⟨by omega, List.lt_trans h1 h2⟩
theorem klt_irr {a : Int × Str} : ¬ klt a a := fun h => by
  rcases h with h | ⟨_, h⟩
  · omega
  · exact List.lt_irrefl _ h
theorem klt_tri {a b : Int × Str} (h1 : ¬ klt a b) (h2 : ¬ klt b a) : a = b := by
  obtain ⟨a1, a2⟩ := a
  obtain ⟨b1, b2⟩ := b
  have e1 : a1 = b1 := by
    by_cases c : a1 < b1
    · exact absurd (.inl c) h1
    · by_cases d : b1 < a1
      · exact absurd (.inl d) h2
      · omega
  have e2 : a2 = b2 := by
    have n1 : ¬ a2.cps.toList < b2.cps.toList := fun z => h1 (.inr ⟨e1, z⟩)
    have n2 : ¬ b2.cps.toList < a2.cps.toList := fun z => h2 (.inr ⟨e1.symm, z⟩)
    have e := List.le_antisymm (List.not_lt.mp n2) (List.not_lt.mp n1)
    obtain ⟨⟨x⟩⟩ := a2
    obtain ⟨⟨y⟩⟩ := b2
    have e : x = y := e
    rw [e]
  rw [e1, e2]
def Told (cs : List Col) (ps : List (List Trn)) (tms : List Tm) : Option (Int × Str) → Prop
  | none => ∀ c ∈ cs, hzF cs ps tms c.1 = 60
  | some r => r.1 < 60 ∧ (∃ c ∈ cs, c.1 = r.2) ∧ hzF cs ps tms r.2 = r.1 ∧ ∀ c ∈ cs, hzF cs ps tms c.1 < 60 → ¬ klt (hzF cs ps tms c.1, c.1) r
theorem told_uniq {cs : List Col} {ps : List (List Trn)} {tms : List Tm} : ∀ {r r' : Option (Int × Str)}, Told cs ps tms r → Told cs ps tms r' → r = r'
  | none, none, _, _ => rfl
  | none, some r, h, ⟨h1, ⟨c, hc, e⟩, h3, _⟩ => by have := h c hc; rw [e] at this; omega
  | some r, none, ⟨h1, ⟨c, hc, e⟩, h3, _⟩, h => by have := h c hc; rw [e] at this; omega
  | some r, some r', ⟨h1, ⟨c, hc, e⟩, h3, h4⟩, ⟨h1', ⟨c', hc', e'⟩, h3', h4'⟩ => by
    have k1 := h4 c' hc' (by rw [e', h3']; exact h1')
    have k2 := h4' c hc (by rw [e, h3]; exact h1)
    rw [e', h3'] at k1
    rw [e, h3] at k2
    rw [klt_tri (a := r) (b := r') (fun z => k2 z) fun z => k1 z]
theorem cw_perm {z : Str} {t1 t2 : List Tm} (p : t1.Perm t2) (h : Nat) : cw z t1 h = cw z t2 h := (p.filter _).length_eq
theorem hz_perm {cs : List Col} {ps : List (List Trn)} {t1 t2 : List Tm} (p : t1.Perm t2) (z : Str) : hzF cs ps t1 z = hzF cs ps t2 z := by
  unfold hzF cwL
  simp only [fun h => cw_perm (z := z) p h]
theorem told_perm {cs : List Col} {ps : List (List Trn)} {t1 t2 : List Tm} (p : t1.Perm t2) : ∀ {r : Option (Int × Str)}, Told cs ps t1 r → Told cs ps t2 r
  | none, h => fun c hc => by rw [← hz_perm p]; exact h c hc
  | some r, ⟨h1, h2, h3, h4⟩ => ⟨h1, h2, by rw [← hz_perm p]; exact h3, fun c hc => by rw [← hz_perm p]; exact h4 c hc⟩
theorem cw_sub {z : Str} {t1 t2 : List Tm} (s : t1.Sublist t2) (h : Nat) : cw z t1 h ≤ cw z t2 h := (s.filter _).length_le
theorem hz_sub {cs : List Col} {ws : List Wsh} {ps : List (List Trn)} {t1 t2 : List Tm} (pal : PalE cs ws) (l : t2.length ≤ 20) (s : t1.Sublist t2) (z : Str) : hzF cs ps t2 z ≤ hzF cs ps t1 z := by
  have l1 : t1.length ≤ 20 := Nat.le_trans s.length_le l
  refine hour_mono (zdy pal l (Nat.le_refl _)) (zdy pal l1 (Nat.le_refl _)) (by rw [cwL_len, cwL_len]) fun n _ F p => Int.le_trans ?_ (F p)
  refine sg_le fun k _ => ?_
  split
  · rw [cwL_at, cwL_at]
    have := cw_sub (z := z) s k
    split <;> omega
  · exact Int.le_refl _
def hrO : Option (Int × Str) → Int
  | none => 60
  | some r => r.1
theorem told_sub {cs : List Col} {ws : List Wsh} {ps : List (List Trn)} {t1 t2 : List Tm} (pal : PalE cs ws) (l : t2.length ≤ 20) (s : t1.Sublist t2) {r r' : Option (Int × Str)} (h : Told cs ps t2 r) (h' : Told cs ps t1 r') : hrO r ≤ hrO r' := by
  cases r' with
  | none =>
    cases r with
    | none => exact Int.le_refl _
    | some r => have := h.1; show r.1 ≤ 60; omega
  | some r' =>
    obtain ⟨h1, ⟨c, hc, e⟩, h3, _⟩ := h'
    have m := hz_sub (ps := ps) pal l s r'.2
    rw [h3] at m
    cases r with
    | none =>
      have := h c hc
      rw [e] at this
      show 60 ≤ r'.1
      omega
    | some r =>
      have k := h.2.2.2 c hc (by rw [e]; omega)
      rw [e] at k
      show r.1 ≤ r'.1
      by_cases z : r.1 ≤ r'.1
      · exact z
      · exact absurd (.inl (by show hzF cs ps t2 r'.2 < r.1; omega)) k
/-- the least of rows that are told apart by an hour and a colour -/
theorem min_fold {α : Type} {lt : α → α → Bool} {k : α → Int × Str} {l : List α} (H : ∀ a ∈ l, ∀ b ∈ l, lt a b = true ↔ klt (k a) (k b)) : ∀ (xs : List α) (x : α) (seen : List α), x ∈ l → (∀ y ∈ xs, y ∈ l) → (∀ y ∈ seen, ¬ klt (k y) (k x)) →
    (xs.foldl (fun a y => if lt y a then y else a) x ∈ x :: xs) ∧ (∀ y ∈ seen, ¬ klt (k y) (k (xs.foldl (fun a y => if lt y a then y else a) x))) ∧ ∀ y ∈ x :: xs, ¬ klt (k y) (k (xs.foldl (fun a y => if lt y a then y else a) x))
  | [], x, seen, _, _, hs => ⟨List.mem_cons_self, hs, fun y hy => by rw [List.mem_singleton.mp hy]; exact klt_irr⟩
  | y :: xs, x, seen, hx, hl, hs => by
    have hy := hl y List.mem_cons_self
    rw [List.foldl_cons]
    by_cases c : lt y x = true
    · rw [if_pos c]
      have cl := (H y hy x hx).mp c
      obtain ⟨i1, i2, i3⟩ := min_fold H xs y (x :: seen) hy (fun z hz => hl z (List.mem_cons_of_mem _ hz)) fun z hz => by
        rcases List.mem_cons.mp hz with rfl | hz
        · exact fun w => klt_irr (klt_trans w cl)
        · exact fun w => hs z hz (klt_trans w cl)
      refine ⟨List.mem_cons_of_mem _ i1, fun z hz => i2 z (List.mem_cons_of_mem _ hz), fun z hz => ?_⟩
      rcases List.mem_cons.mp hz with rfl | hz
      · exact i2 z List.mem_cons_self
      · exact i3 z hz
    · rw [if_neg c]
      have cl : ¬ klt (k y) (k x) := fun w => c ((H y hy x hx).mpr w)
      obtain ⟨i1, i2, i3⟩ := min_fold H xs x (y :: seen) hx (fun z hz => hl z (List.mem_cons_of_mem _ hz)) fun z hz => by
        rcases List.mem_cons.mp hz with rfl | hz
        · exact cl
        · exact hs z hz
      refine ⟨?_, fun z hz => i2 z (List.mem_cons_of_mem _ hz), fun z hz => ?_⟩
      · rcases List.mem_cons.mp i1 with e | e
        · rw [e]; exact List.mem_cons_self
        · exact List.mem_cons_of_mem _ (List.mem_cons_of_mem _ e)
      · rcases List.mem_cons.mp hz with e | hz
        · rw [e]; exact i3 x List.mem_cons_self
        · rcases List.mem_cons.mp hz with e | hz
          · rw [e]; exact i2 y List.mem_cons_self
          · exact i3 z (List.mem_cons_of_mem _ hz)
theorem minD_enc {α : Type} (enc : α → PyData) : ∀ (xs : List α) (x : α), PySem.W.minD (enc x) (xs.map enc) = enc (xs.foldl (fun a y => if PySem.W.dataLt (enc y) (enc a) then y else a) x)
  | [], _ => rfl
  | y :: xs, x => by
    have ih := minD_enc enc xs
    unfold PySem.W.minD at ih ⊢
    rw [List.map_cons, List.foldl_cons, List.foldl_cons]
    split
    · exact ih y
    · exact ih x

end
end Pot

namespace Pot
open PySem PySem.Spec PyProof.Rows L2
section
variable {P : Program} {w : World} {K : PySem.W.Frag} {mg : Str → Option Value} {base : Heap}
theorem go_offL2 {K : PySem.W.Frag} {H : Hp} {S : List Addr} (hS : ∀ s ∈ S, ∃ xs, H s = some (.lst xs)) (a : Addr) (us : List V) (h : SqT K H a us) : SqT K (off H S) a us := by
  have go : ∀ o, (H a = some (.tup us) ∨ H a = some (.frz o (.tup us))) → a ∉ S := fun o e z => by
    obtain ⟨xs, h1⟩ := hS a z
    rw [h1] at e; rcases e with e | e <;> cases e
  rcases h with (h | ⟨o, h⟩) | h
  · exact .inl (.inl (by rw [off_out (go ⟨.none, none, .fields #[], #[]⟩ (.inl h))]; exact h))
  · exact .inl (.inr ⟨o, by rw [off_out (go o (.inr h))]; exact h⟩)
  · exact .inr h
theorem colF_ok {cs : List Col} {z : Str} (h : ∃ c ∈ cs, c.1 = z) : ∃ c, c ∈ cs ∧ colF cs z = some c ∧ c.1 = z := by
  obtain ⟨c0, h0, e0⟩ := h
  unfold colF
  cases e : cs.find? (fun c => decide (c.1 = z)) with
  | none =>
    have := List.find?_eq_none.mp e c0 h0
    exact absurd (decide_eq_true e0) this
  | some c => exact ⟨c, List.mem_of_find?_eq_some e, rfl, of_decide_eq_true (List.find?_some (p := fun c : Col => decide (c.1 = z)) e)⟩
abbrev Lk : Type := Int × Str × List Nat
def lkD (r : Lk) : PyData := .tuple [.int r.1, .str r.2.1, .list ((r.2.2.map Int.ofNat).map PyData.int)]
def lkF (cs : List Col) (ps : List (List Trn)) (tms : List Tm) (n : Nat) (z : Str) : Option Lk := match servedF (ofsF cs ps z) (cwL z tms n) with
  | .inl _ => none
  | .inr (h, S) => some ((h : Int), z, natSort S)
theorem lk_lt {a b : Lk} (h : a.2.1 = b.2.1 → a = b) : PySem.W.dataLt (lkD a) (lkD b) = true ↔ klt (a.1, a.2.1) (b.1, b.2.1) := by
  by_cases e : a = b
  · rw [e, PySem.W.dataLt_self]
    exact ⟨fun z => (by cases z), fun z => absurd z klt_irr⟩
  have ne : a.2.1 ≠ b.2.1 := fun z => e (h z)
  have a1 : ∀ x y : Int, PySem.W.alike (.int x) (.int y) = true := fun _ _ => rfl
  have a2 : ∀ x y : Str, PySem.W.alike (.str x) (.str y) = true := fun _ _ => rfl
  unfold lkD
  rw [PySem.W.dataLt_tuple, PySem.W.dataLt_cons (a1 _ _)]
  by_cases e1 : a.1 = b.1
  · have q1 : PyData.eqv (.int a.1) (.int b.1) = true := by rw [e1]; simp [PyData.eqv]
    rw [if_pos q1, PySem.W.dataLt_cons (a2 _ _)]
    have q2 : ¬ PyData.eqv (.str a.2.1) (.str b.2.1) = true := fun z => ne (by simpa [PyData.eqv] using z)
    rw [if_neg q2, PySem.W.dataLt_str, decide_eq_true_eq]
    exact ⟨fun z => .inr ⟨e1, z⟩, fun z => z.elim (fun z => absurd z (by show ¬ a.1 < b.1; omega)) fun z => z.2⟩
  · have q1 : ¬ PyData.eqv (.int a.1) (.int b.1) = true := fun z => e1 (by simpa [PyData.eqv] using z)
    rw [if_neg q1, PySem.W.dataLt_int, decide_eq_true_eq]
    exact ⟨fun z => .inl z, fun z => z.elim id fun z => absurd z.1 e1⟩
theorem ints_alike : ∀ xs ys : List Int, PySem.W.alikeAll (xs.map PyData.int) (ys.map PyData.int) = true
  | [], _ => by simp [PySem.W.alikeAll]
  | _ :: _, [] => by simp [PySem.W.alikeAll]
  | x :: xs, y :: ys => by
    rw [List.map_cons, List.map_cons]
    simp [PySem.W.alikeAll, PySem.W.alike, ints_alike xs ys]
theorem lk_alike (l : List Lk) : PySem.W.AlikeAll (l.map lkD) := ⟨fun x hx y hy => by
    obtain ⟨a, _, rfl⟩ := List.mem_map.mp hx
    obtain ⟨b, _, rfl⟩ := List.mem_map.mp hy
    unfold lkD
    simp only [PySem.W.alikeAll, PySem.W.alike, ints_alike, Bool.and_self], fun x hx e => by
    obtain ⟨a, _, rfl⟩ := List.mem_map.mp hx
    cases e⟩
theorem lk_depth (l : List Lk) : PyData.depthAll (l.map lkD) ≤ 2 := depthAll_map fun r _ => by
  have h := depthAll_map (b := 0) (f := PyData.int) (l := r.2.2.map Int.ofNat) fun _ _ => Nat.zero_le _
  show max 0 (max 0 (max (PyData.depthAll ((r.2.2.map Int.ofNat).map PyData.int) + 1) 0)) + 1 ≤ 2
  omega
theorem lk_of {cs : List Col} {ps : List (List Trn)} {tms : List Tm} {n : Nat} {zs : List Str} {r : Lk} (h : r ∈ zs.filterMap (lkF cs ps tms n)) : r.2.1 ∈ zs ∧ lkF cs ps tms n r.2.1 = some r := by
  obtain ⟨z, hz, e⟩ := List.mem_filterMap.mp h
  have e2 := e
  unfold lkF at e2
  split at e2
  · cases e2
  · have : r.2.1 = z := by rw [← Option.some.inj e2]
    rw [this]
    exact ⟨hz, e⟩
theorem noL_wks : ∀ rs : List Wk, noLAll (rs.map wkD)
  | [] => trivial
  | _ :: r => ⟨⟨trivial, trivial, trivial, trivial, trivial⟩, noL_wks r⟩
theorem wk_depth (r : Wk) : (wkD r).depth ≤ 60 := by show 1 ≤ 60; decide
theorem rows_wk {rs : List Wk} : RowsCmp (rs.map wkD) := by
  refine ⟨fun d hd => ?_, fun x r x2 r2 h1 h2 => ?_, fun xs ys h1 h2 => ?_⟩
  · obtain ⟨c, _, rfl⟩ := List.mem_map.mp hd
    exact ⟨_, _, rfl⟩
  · obtain ⟨c, _, e⟩ := List.mem_map.mp h1
    obtain ⟨c2, _, e2⟩ := List.mem_map.mp h2
    obtain ⟨rfl, _⟩ := List.cons.inj (PyData.tuple.inj e)
    obtain ⟨rfl, _⟩ := List.cons.inj (PyData.tuple.inj e2)
    rfl
  · obtain ⟨c, _, e⟩ := List.mem_map.mp h1
    obtain ⟨c2, _, e2⟩ := List.mem_map.mp h2
    cases PyData.tuple.inj e
    cases PyData.tuple.inj e2
    simp [okCmp, PySem.W.alike]
theorem wk_al (a b : Wk) : PySem.W.alike (wkD a) (wkD b) = true := by
  unfold wkD
  simp [PySem.W.alike, PySem.W.alikeAll]
theorem wk_tp (a : Wk) : ∃ x r, wkD a = .tuple (x :: r) := ⟨_, _, rfl⟩
theorem addS_nodup {ks : List Str} {k : Str} (h : ks.Nodup) : (addS ks k).Nodup := by
  unfold addS
  split
  · exact h
  · rename_i n
    exact List.nodup_cons.mpr ⟨n, h⟩
theorem setL_nodup (zs : List Str) : (setL zs).Nodup := by
  have : ∀ i, i ≤ zs.length → (setL (zs.take i)).Nodup := fun i => by
    induction i with
    | zero => intro _; rw [List.take_zero]; exact List.nodup_nil
    | succ i ih =>
      intro h
      rw [setL_take (List.getElem?_eq_getElem (show i < zs.length by omega))]
      exact addS_nodup (ih (by omega))
  have := this zs.length (Nat.le_refl _)
  rwa [List.take_length] at this
/-- offers of a colour with their pot and number; whom of them each hour has -/
def o5F (cs : List Col) (ps : List (List Trn)) (z : Str) : List Off5 := match colF cs z with
  | some c => selP c.2.2.2 c.1 ps 0
  | none => []
def rwF (cs : List Col) (ps : List (List Trn)) (tms : List Tm) (n : Nat) (z : Str) : List (List Nat) := match servedF (ofsF cs ps z) (cwL z tms n) with
  | .inl rows => rows.map natSort
  | .inr _ => []
def r2G (cs : List Col) (ps : List (List Trn)) (tms : List Tm) (n : Nat) (z : Str) : List (Int × Str) := match servedF (ofsF cs ps z) (cwL z tms n) with
  | .inl _ => r2F z tms n
  | .inr _ => []
def r3G (cs : List Col) (ps : List (List Trn)) (tms : List Tm) (n : Nat) (z : Str) : List (Int × Int × Int) := r3F (o5F cs ps z) (rwF cs ps tms n z) n
def rsG (cs : List Col) (ps : List (List Trn)) (tms : List Tm) (n : Nat) (z : Str) : List Wk := rsF (o5F cs ps z) (rwF cs ps tms n z) z tms n
/-- all rows that are told -/
structure AllR (cs : List Col) (ps : List (List Trn)) (tms : List Tm) (n : Nat) (zs : List Str) (rs : List Wk) : Prop where
  n60 : n ≤ 60
  last : ∀ t ∈ tms, t.2.2.2 ≤ (n : Int)
  nd : zs.Nodup
  mem : ∀ z, z ∈ zs ↔ ∃ t ∈ tms, t.2.1 = z
  ok : ∀ z ∈ zs, ∃ rows, servedF (ofsF cs ps z) (cwL z tms n) = .inl rows
  e3 : rs.map k3 = zs.flatMap (r3G cs ps tms n)
  p2 : (rs.map k2).Perm (zs.flatMap (r2G cs ps tms n))
  cp : ∀ r ∈ rs, ∃ z ∈ zs, Cp (o5F cs ps z) (rwF cs ps tms n z) z tms r
  det : rs = zs.flatMap (rsG cs ps tms n)
  so : zs = srtS (setL (tms.map fun t => t.2.1))
  mx : n = 0 ∧ tms = [] ∨ ∃ t ∈ tms, t.2.2.2 = (n : Int)
/-- the hours that lack are served's own -/
def LkS (cs : List Col) (ps : List (List Trn)) (tms : List Tm) (h : Nat) (z : Str) (S : List Nat) : Prop := ∃ n : Nat, (∀ t ∈ tms, t.2.2.2 ≤ (n : Int)) ∧ (n = 0 ∧ tms = [] ∨ ∃ t ∈ tms, t.2.2.2 = (n : Int)) ∧ servedF (ofsF cs ps z) (cwL z tms n) = .inr (h, S)
theorem LkS.uniq {cs : List Col} {ps : List (List Trn)} {tms : List Tm} {h : Nat} {z : Str} {S S' : List Nat} (a : LkS cs ps tms h z S) (b : LkS cs ps tms h z S') : S = S' := by
  obtain ⟨n, l, m, e⟩ := a
  obtain ⟨n', l', m', e'⟩ := b
  have en : n = n' := by
    rcases m with ⟨m, t0⟩ | ⟨t, ht, m⟩ <;> rcases m' with ⟨m', t0'⟩ | ⟨t', ht', m'⟩
    · omega
    · rw [t0] at ht'; cases ht'
    · rw [t0'] at ht; cases ht
    · have := l t' ht'; have := l' t ht; omega
  subst en
  rw [e] at e'
  have := Sum.inr.inj e'
  exact (Prod.ext_iff.mp this).2
theorem flat_take {α : Type} {f : Str → List α} {zs : List Str} {i : Nat} {z : Str} (g : zs[i]? = some z) : (zs.take (i + 1)).flatMap f = (zs.take i).flatMap f ++ f z := by
  rw [List.take_add_one, g, List.flatMap_append]; simp
theorem rs_none {o5 : List Off5} {z : Str} {tms : List Tm} {n : Nat} : rsF o5 [] z tms n = [] := by
  unfold rsF
  rw [List.flatMap_eq_nil_iff]
  intro i _
  show List.map _ (List.zip _ []) = []
  rw [List.zip_nil_right]; rfl
theorem r3_none {o5 : List Off5} {n : Nat} : r3F o5 [] n = [] := by
  unfold r3F
  rw [List.flatMap_eq_nil_iff]
  intro i _
  rfl
abbrev s_worked_by : Stmt := topS 13
def n_worked_by : List Str := ["palette", "pots", "teams", "hours", "rows", "lacks", "colour", "offers", "numbers", "lack", "team", "offer"]
theorem sc_worked_by : FnScope n_worked_by ["palette", "pots", "teams"] (defScope s_worked_by) := ⟨rfl, rfl, rfl, by decide +kernel, rfl, by decide +kernel, by decide +kernel⟩
def spWorked (K : PySem.W.Frag) : Sp := fun vs H Q _ => ∃ (v : V) (PP A : Addr) (xs : List V) (cs : List Col) (ws : List Wsh) (ps : List (List Trn)) (tms : List Tm), vs = [v, .ref PP, .ref A] ∧ Dp K H v (palD cs ws) ∧ PalE cs ws ∧ Dp K H (.ref PP) (potsD ps) ∧ PotsOk cs ps ∧ SqL K H A xs ∧ DpAll K H xs (tms.map tmD) ∧ tms.length ≤ 20 ∧ (∀ t ∈ tms, TmOk t ∧ ∃ c ∈ cs, c.1 = t.2.1) ∧
  (Told cs ps tms none → ∀ (H' : Hp) (t R : Addr) (us : List V) (rs : List Wk) (n : Nat) (zs : List Str), Same H H' → H R = none → H' t = some (.tup [.ref R, .non]) → H' R = some (.lst us) → DpAll K H' us ((rs.mergeSort (PySem.W.dataLe false wkD)).map wkD) → rs.length ≤ 24000 → AllR cs ps tms n zs rs → Q (.ref t) H') ∧
  (∀ (h : Nat) (z : Str) (S : List Nat), Told cs ps tms (some ((h : Int), z)) → LkR (ofsF cs ps z) (cwL z tms 60) h S → LkS cs ps tms h z S → ∀ (H' : Hp) (t x L : Addr), Same H H' → H L = none → H' t = some (.tup [.non, .ref x]) → H' x = some (.tup [.int (h : Nat), .str z, .ref L]) → H' L = some (.lst ((natSort S).map nV)) → Q (.ref t) H')
/-- those that lack, their hours in fresh lists -/
def LkI (H0 Hx : Hp) (S : List Addr) (lu : List V) (ls : List Lk) : Prop := ∀ (i : Nat) (v : V), lu[i]? = some v → ∃ (r : Lk) (t2 L : Addr), ls[i]? = some r ∧ v = .ref t2 ∧ off Hx S t2 = some (.tup [.int r.1, .str r.2.1, .ref L]) ∧ off Hx S L = some (.lst (r.2.2.map nV)) ∧ H0 L = none
theorem LkI.same {H0 Hx Hy : Hp} {S : List Addr} {lu : List V} {ls : List Lk} (h : LkI H0 Hx S lu ls) (s : Sm S Hx Hy) : LkI H0 Hy S lu ls := fun i v hv => by
  obtain ⟨r, t2, L, g, e, f, k, n⟩ := h i v hv
  exact ⟨r, t2, L, g, e, s _ _ f, s _ _ k, n⟩
theorem LkI.app {H0 Hx : Hp} {S : List Addr} {lu : List V} {ls : List Lk} {v : V} {r : Lk} {t2 L : Addr} (h : LkI H0 Hx S lu ls) (l : lu.length = ls.length) (e : v = .ref t2) (f : off Hx S t2 = some (.tup [.int r.1, .str r.2.1, .ref L])) (k : off Hx S L = some (.lst (r.2.2.map nV))) (n : H0 L = none) : LkI H0 Hx S (lu ++ [v]) (ls ++ [r]) := fun i w hw => by
  rcases Nat.lt_or_ge i lu.length with hi | hi
  · rw [List.getElem?_append_left hi] at hw
    obtain ⟨r2, t3, L3, g, e3, f3, k3, n3⟩ := h i w hw
    exact ⟨r2, t3, L3, by rw [List.getElem?_append_left (by omega)]; exact g, e3, f3, k3, n3⟩
  · rw [List.getElem?_append_right hi] at hw
    rw [List.getElem?_singleton] at hw
    split at hw
    · rename_i e0
      cases hw
      exact ⟨r, t2, L, by rw [List.getElem?_append_right (by omega), show i - ls.length = 0 by omega]; rfl, e, f, k, n⟩
    · cases hw
theorem lkD_inj {a b : Lk} (h : lkD a = lkD b) : a = b := by
  obtain ⟨a1, a2, a3⟩ := a
  obtain ⟨b1, b2, b3⟩ := b
  unfold lkD at h
  have h := PyData.tuple.inj h
  simp only [List.cons.injEq, PyData.int.injEq, PyData.str.injEq, PyData.list.injEq, and_true] at h
  obtain ⟨h1, h2, h3⟩ := h
  have h4 : a3 = b3 := by
    rw [List.map_map, List.map_map] at h3
    refine (List.map_inj_right fun x y e => ?_).mp h3
    have e := PyData.int.inj e
    exact Int.ofNat.inj e
  rw [show a1 = b1 from h1, show a2 = b2 from h2, h4]
set_option maxHeartbeats 4000000 in
theorem ok_worked {f : Addr} {fd : FuncData} {k : Nat} (F : Fun K "worked_by" "worked_by" s_worked_by f fd) (T : Txt mg) (c_offers_of : Cl P w K mg base (k + 4) "offers_of" (spOffers K)) (c_served : Cl P w K mg base (k + 4) "served" (spServed K)) (c_wants_of : ClD P w K mg base (k + 1) "wants_of" [] (spWants K)) (c_rows_of : Cl P w K mg base (k + 4) "rows_of" (spRowsOf K)) : FnOk P w K mg base CX0 (k + 5) f fd ["palette", "pots", "teams"] (spWorked K) := by
  refine F.ok sc_worked_by (fun vs H Q E h => ?_) (fun cdv A outer s H vs Q E hr h => ?_)
  · obtain ⟨v, PP, A, xs, cs, ws, ps, tms, rfl, _⟩ := h
    rfl
  · obtain ⟨v, PP, B, xs, cs, ws, ps, tms, rfl, dv, pal, dps, pok, hs, da, lt, tok, q1, q2⟩ := h
    have nd := sc_worked_by.nd
    have hu64 := hr.units
    have hu70 : (A.deeper (envOfC (Str.ofString "worked_by") (defScope s_worked_by) s.heap.objs.size f cdv)).units + 70 < cLine := by have := hr.un; omega
    refine ⟨_, (pss_cons (ps_set (i := 3) nd rfl (.inl rfl) (pe_callBK (kc_maxO (K := K) hu64) (by rfl) T.max (by decide +kernel) (pa_cons (pe_lc (own := [("team", 10)]) rfl nd (ki_list (K := K) (pv 2)) (blkOk_by (N := n_worked_by) (sc := defScope s_worked_by) (by decide +kernel)) (fun _ _ _ _ _ => (pg_name (i := 10) nd rfl (.inl rfl))) (fun _ _ _ _ _ => pts_nil) (fun _ _ _ _ _ => (pe_ix (kx_tup (K := K)) (pv 10) pe_int (fun _ _ => rfl)))) pa_nil) (pk_cons pe_int pk_nil)))
      (pss_cons (ps_set (i := 4) nd rfl (.inl rfl) (pe_lst pa_nil))
      (pss_cons (ps_set (i := 5) nd rfl (.inl rfl) (pe_lst pa_nil))
      (pss_cons (ps_for PassesOwn.never rfl (ki_list (K := K) (pe_callB (kc_sortedSs (P := P) (w := w)) (by rfl) T.sorted (by decide +kernel) (pa_cons (pe_callTy (kc_setLs (K := K) (P := P) (w := w)) (by rfl) T.set (by decide +kernel) (pa_cons (pe_lc (own := [("team", 10)]) rfl nd (ki_list (K := K) (pv 2)) (blkOk_by (N := n_worked_by) (sc := defScope s_worked_by) (by decide +kernel)) (fun _ _ _ _ _ => (pg_name (i := 10) nd rfl (.inl rfl))) (fun _ _ _ _ _ => pts_nil) (fun _ _ _ _ _ => (pe_ix (kx_tup (K := K)) (pv 10) pe_int (fun _ _ => rfl)))) pa_nil)) pa_nil))) (pg_name (i := 6) nd rfl (.inl rfl))
          (pss_cons (ps_set (i := 7) nd rfl (.inl rfl) (pe_cl c_offers_of hr (by omega) (by rfl) (pa_cons (pv 0) (pa_cons (pv 1) (pa_cons (pv 6) pa_nil)))))
          (pss_cons (ps_asg (pe_cl c_served hr (by omega) (by rfl) (pa_cons (pe_lc (own := [("offer", 11)]) rfl nd (ki_list (K := K) (pv 7)) (blkOk_by (N := n_worked_by) (sc := defScope s_worked_by) (by decide +kernel)) (fun _ _ _ _ _ => (pg_name (i := 11) nd rfl (.inl rfl))) (fun _ _ _ _ _ => pts_nil) (fun _ _ _ _ _ => (pe_slice (kl_tup (K := K)) (pv 11) (po_some pe_int) po_none))) (pa_cons (pe_cd c_wants_of hr (by omega) (by rfl) (pa_cons (pv 2) (pa_cons (pv 6) (pa_cons (pv 3) pa_nil)))) pa_nil))) (kg_tup (K := K) (n := 2) (pgs_cons (pg_name (i := 8) nd rfl (.inl rfl)) (pgs_cons (pg_name (i := 9) nd rfl (.inl rfl)) pgs_nil))))
          (pss_one (ps_if (pt_cmpR op_isN (pv 9) pe_non (nomark _))
              (pss_one (ps_expr (pe_bm PySem.F.plainAttrs_list PySem.F.slot_list_extend PySem.F.type_list_extend mt_extend (pv 4) (pa_cons (pe_cl c_rows_of hr (by omega) (by rfl) (pa_cons (pv 2) (pa_cons (pv 6) (pa_cons (pv 7) (pa_cons (pv 8) pa_nil))))) pa_nil))))
              (pss_one (ps_expr (pe_bm PySem.F.plainAttrs_list PySem.F.slot_list_append PySem.F.type_list_append mt_append (pv 5) (pa_cons (pe_tup (pa_cons (pe_ix (kx_tup (K := K)) (pv 9) pe_int (fun _ _ => rfl)) (pa_cons (pv 6) (pa_cons (pe_ix (kx_tup (K := K)) (pv 9) pe_int (fun _ _ => rfl)) pa_nil)))) pa_nil)))))))))
      (pss_cons (ps_if (kt_truth (K := K) (pv 5))
          (pss_one (ps_ret (pe_tup (pa_cons pe_non (pa_cons (pe_callB (kc_minD (K := K) hu64) (by rfl) T.min (by decide +kernel) (pa_cons (pv 5) pa_nil)) pa_nil)))))
          pss_nil)
      (pss_one (ps_ret (pe_tup (pa_cons (pe_callB (kc_sortedE (K := K) (enc := wkD) hu70 wk_al wk_tp wk_depth) (by rfl) T.sorted (by decide +kernel) (pa_cons (pv 4) pa_nil)) (pa_cons pe_non pa_nil)))))))))), ?_⟩
    have lxs : xs.length = tms.length := dpAll_map_len da
    refine ⟨_, rfl, B, rfl, ⟨_, hs⟩, fun D nD => ?_⟩
    refine lc_it (walk_list (xs := xs)) (PvL H D fun i => ((tms.take i).map fun t => V.int t.2.2.2)) (pv_start nD rfl) (fun i H2 _ p => p.1.seq hs) ?_ ?_
    · rintro i x H2 H3 hi pv ⟨rfl, gx⟩
      obtain ⟨t, gt, dt⟩ := dpAll_map_at da gx
      obtain ⟨a, rfl, ha⟩ := tm_dp dt
      have ha3 := same_tup pv.1 ha
      refine ⟨rfl, tYes_at ?_⟩
      rw [if_pos rfl]
      refine ⟨_, rfl, a, _, 3, .int t.2.2.2, rfl, rfl, ha3, rfl, pv_put nD pv (Same.refl _) (by rw [List.take_add_one, gt, List.map_append]; rfl) ?_⟩
      rw [List.length_map, List.length_take, sizeLine_eq]; omega
    intro H2 pv
    obtain ⟨s2, hD⟩ := pv_end pv (show _ = (tms.map fun t => V.int t.2.2.2) by rw [lxs, List.take_length])
    clear pv
    have eD : (tms.map fun t => V.int t.2.2.2) = (tms.map fun t => t.2.2.2).map V.int := by rw [List.map_map]; rfl
    rw [eD] at hD
    refine ⟨D, _, 0, rfl, rfl, SqL.of hD, ?_⟩
    have bl : ∀ t ∈ tms, 0 ≤ t.2.2.2 ∧ t.2.2.2 ≤ 60 := fun t ht => (tok t ht).1.b
    have key : ∀ (G : V → Hp → Prop), (∀ n : Nat, (∀ t ∈ tms, t.2.2.2 ≤ (n : Int)) → n ≤ 60 → (n = 0 ∧ tms = [] ∨ ∃ t ∈ tms, t.2.2.2 = (n : Int)) → G (.int (n : Nat)) H2) → ((tms.map fun t => t.2.2.2) = [] → G (.int 0) H2) ∧ ∀ y ∈ (tms.map fun t => t.2.2.2), (∀ z ∈ (tms.map fun t => t.2.2.2), z ≤ y) → G (.int y) H2 := fun G hG => ⟨fun e => hG 0 (fun t ht => by rw [List.map_eq_nil_iff.mp e] at ht; cases ht) (by decide) (.inl ⟨rfl, List.map_eq_nil_iff.mp e⟩), fun y hy hm => by
      obtain ⟨t, ht, e⟩ := List.mem_map.mp hy
      have b := bl t ht
      have e2 : t.2.2.2 = y := e
      have := hG y.toNat (fun t2 h2 => by have := hm _ (List.mem_map.mpr ⟨t2, h2, rfl⟩); omega) (by omega) (.inr ⟨t, ht, by omega⟩)
      rw [show ((y.toNat : Nat) : Int) = y by omega] at this
      exact this⟩
    refine key (fun x H1 => gName 3 x (L2.start n_worked_by [v, V.ref PP, V.ref B]) H1 _) fun n hn n60 mx => ?_
    clear key
    have hs2 := s2.seq hs
    refine ⟨Nat.zero_le _, fun R nR => ?_⟩
    have sR := same_upd (o := .lst []) nR
    have hR : upd H2 R (.lst []) R = some (.lst []) := upd_same
    have nR0 := s2.free nR
    have s3 := s2.trans sR
    clear s2 hD hs2
    generalize upd H2 R (.lst []) = H3 at hR s3 sR ⊢
    refine ⟨Nat.zero_le _, fun LK nLK => ?_⟩
    have sK := same_upd (o := .lst []) nLK
    have hK : upd H3 LK (.lst []) LK = some (.lst []) := upd_same
    have nK0 := s3.free nLK
    have RK : R ≠ LK := ne_of_none hR nLK
    have hR := sK _ _ hR
    have s3 := s3.trans sK
    clear sR sK
    generalize upd H3 LK (.lst []) = H4 at hR hK s3 ⊢
    refine ⟨_, rfl, B, rfl, ⟨_, s3.seq hs⟩, fun D2 nD2 => ?_⟩
    refine lc_it (walk_list (xs := xs)) (PvL H4 D2 fun i => ((tms.take i).map fun t => V.str t.2.1)) (pv_start nD2 rfl) (fun i H2 _ p => (s3.trans p.1).seq hs) ?_ ?_
    · rintro i x H5 H6 hi pv ⟨rfl, gx⟩
      obtain ⟨t, gt, dt⟩ := dpAll_map_at da gx
      obtain ⟨a, rfl, ha⟩ := tm_dp dt
      have ha3 := same_tup (s3.trans pv.1) ha
      refine ⟨rfl, tYes_at ?_⟩
      rw [if_pos rfl]
      refine ⟨_, rfl, a, _, 1, .str t.2.1, rfl, rfl, ha3, rfl, pv_put nD2 pv (Same.refl _) (by rw [List.take_add_one, gt, List.map_append]; rfl) ?_⟩
      rw [List.length_map, List.length_take, sizeLine_eq]; omega
    intro H5 pv
    obtain ⟨s5, hD⟩ := pv_end pv (show _ = (tms.map fun t => V.str t.2.1) by rw [lxs, List.take_length])
    clear pv
    have eD2 : (tms.map fun t => V.str t.2.1) = (tms.map fun t => t.2.1).map V.str := by rw [List.map_map]; rfl
    rw [eD2] at hD
    refine ⟨D2, _, rfl, SqL.of hD, (by rw [List.length_map]; omega), fun p3 n3 => ?_⟩
    have s6 := same_upd (o := SetSO P w p3 (setL (tms.map fun t => t.2.1))) n3
    have f3 : upd H5 p3 (SetSO P w p3 (setL (tms.map fun t => t.2.1))) p3 = _ := upd_same
    generalize upd H5 p3 (SetSO P w p3 (setL (tms.map fun t => t.2.1))) = H6 at s6 f3 ⊢
    have hl : (setL (tms.map fun t => t.2.1)).length < 64 := by have := setL_len (tms.map fun t => t.2.1); rw [List.length_map] at this; omega
    refine ⟨p3, _, rfl, f3, hl, fun zs p4 pm so n4 => ?_⟩
    have f4 : upd H6 p4 (.lst (zs.map V.str)) p4 = some (.lst (zs.map V.str)) := upd_same
    have s7 := same_upd (o := .lst (zs.map V.str)) n4
    generalize upd H6 p4 (.lst (zs.map V.str)) = H7 at s7 f4 ⊢
    have pR : p4 ≠ R := fun e => by have := (s5.trans s6) _ _ hR; rw [← e, n4] at this; cases this
    have pK : p4 ≠ LK := fun e => by have := (s5.trans s6) _ _ hK; rw [← e, n4] at this; cases this
    have s4 := s5.trans (s6.trans s7)
    have hR := s4 _ _ hR
    have hK := s4 _ _ hK
    have s7 := s3.trans s4
    clear s3 s4 s5 s6 hD f3
    have zmem : ∀ z, z ∈ zs ↔ ∃ t ∈ tms, t.2.1 = z := fun z => by
      rw [pm.mem_iff, mem_setL, List.mem_map]
    have znd : zs.Nodup := pm.nodup_iff.mpr (setL_nodup _)
    have zl : zs.length ≤ 20 := by
      rw [pm.length_eq]
      have := setL_len (tms.map fun t => t.2.1)
      rw [List.length_map] at this
      omega
    refine ⟨p4, rfl, ⟨_, SqL.of f4⟩, ?_⟩
    refine for_it (walk_list (xs := zs.map V.str)) (fun i σ Hx => ∃ v6 v7 v8 v9 ru rs lu, σ = [some v, some (.ref PP), some (.ref B), some (.int (n : Nat)), some (.ref R), some (.ref LK), v6, v7, v8, v9, none, none] ∧ Same H Hx ∧ Hx p4 = some (.lst (zs.map V.str)) ∧ Hx R = some (.lst ru) ∧ DpAll K (off Hx [R, LK]) ru (List.map wkD rs) ∧ rs.length ≤ 1200 * i ∧ Hx LK = some (.lst lu) ∧ DpAll K (off Hx [R, LK]) lu (((zs.take i).filterMap (lkF cs ps tms n)).map lkD) ∧ rs.map k3 = (zs.take i).flatMap (r3G cs ps tms n) ∧ (rs.map k2).Perm ((zs.take i).flatMap (r2G cs ps tms n)) ∧ LkI H Hx [R, LK] lu ((zs.take i).filterMap (lkF cs ps tms n)) ∧ (∀ r ∈ rs, ∃ z ∈ zs, Cp (o5F cs ps z) (rwF cs ps tms n z) z tms r) ∧ rs = (zs.take i).flatMap (rsG cs ps tms n))
      ⟨_, _, _, _, [], [], [], rfl, s7, f4, hR, .nil, Nat.le_refl _, hK, .nil, rfl, .refl _, (fun i v h => by cases h), (fun r h => (List.not_mem_nil h).elim), rfl⟩ (fun i σ Hx _ h => by obtain ⟨_, _, _, _, _, _, _, _, _, h, _⟩ := h; exact SqL.of h) ?_ ?_
    · clear hR hK f4 s7
      rintro i x σ H8 H9 hi ⟨v6, v7, v8, v9, ru, rs, lu, rfl, s8, f4, hR, dR, lR, hK, dK, e3, p2, lki, cp, det⟩ ⟨rfl, gx⟩
      rw [List.getElem?_map] at gx
      obtain ⟨z, gz, rfl⟩ := Option.map_eq_some_iff.mp gx
      obtain ⟨t0, ht0, et0⟩ := (zmem z).mp (List.mem_of_getElem? gz)
      obtain ⟨c, hc, ec, ez⟩ := colF_ok (cs := cs) (z := z) (by obtain ⟨c, hc, e⟩ := (tok t0 ht0).2; exact ⟨c, hc, e.trans et0⟩)
      subst ez
      refine ⟨_, rfl, _, rfl, _, rfl, PP, v, cs, ws, ps, c, rfl, dp_same s8 dv, dp_same s8 dps, pok, (by have := pal.le; omega), hc, ec, fun H10 O us sO nO hO dO => ?_⟩
      have s8' := s8.trans sO
      have f4 := sO _ _ f4
      have hR := sO _ _ hR
      have hK := sO _ _ hK
      have dR := dpAll_same (sm_of (S := [R, LK]) sO) dR
      have dK := dpAll_same (sm_of (S := [R, LK]) sO) dK
      have lki := lki.same (sm_of (S := [R, LK]) sO)
      have eos : ofsF cs ps c.1 = (selP c.2.2.2 c.1 ps 0).map fun o => o.2.2 := by unfold ofsF; rw [ec]
      have lus : us.length = (selP c.2.2.2 c.1 ps 0).length := dpAll_map_len dO
      have los : (selP c.2.2.2 c.1 ps 0).length ≤ 100 := by have := ofs_len (z := c.1) pok; rw [eos, List.length_map] at this; exact this
      refine ⟨_, rfl, O, rfl, ⟨_, SqL.of hO⟩, fun D3 nD3 => ?_⟩
      refine lc_it (walk_list (xs := us)) (fun j Hj => Same H10 Hj ∧ ∃ zs3, Hj D3 = some (.lst zs3) ∧ zs3.length = j ∧ DpAll K (off Hj [D3]) zs3 ((((selP c.2.2.2 c.1 ps 0).take j).map fun o => o.2.2).map offD)) ⟨same_upd nD3, [], upd_same, rfl, .nil⟩ (fun j Hj _ h => SqL.of (h.1 _ _ hO)) ?_ ?_
      · rintro j x H11 H12 hj ⟨s11, zs3, hz, lz, dz⟩ ⟨rfl, gx⟩
        obtain ⟨o, go, dpo⟩ := dpAll_map_at dO gx
        obtain ⟨ao, rfl, hT⟩ := o5_dp dpo
        have hT := same_tup s11 hT
        refine ⟨rfl, tYes_at ?_⟩
        rw [if_pos rfl]
        refine ⟨_, rfl, _, rfl, ao, _, rfl, hT, fun h => absurd h.1 (show ¬ (2 : Nat) = 0 by decide), fun _ u nu => ?_⟩
        have ecut : cutV [V.int (o.1 : Nat), .int (o.2.1 : Nat), .int o.2.2.1, .int o.2.2.2.1, .int o.2.2.2.2] (some 2) none = [.int o.2.2.1, .int o.2.2.2.1, .int o.2.2.2.2] := rfl
        rw [ecut]
        have lv1 : Live [D3] H12 := fun x hx e => by rw [List.mem_singleton.mp hx, hz] at e; cases e
        have gu := off_new (o := .tup [.int o.2.2.1, .int o.2.2.2.1, .int o.2.2.2.2]) lv1 nu
        have dz := dpAll_same (sm_put (S := [D3]) (o := .tup [.int o.2.2.1, .int o.2.2.2.1, .int o.2.2.2.2]) nu) dz
        have hz := same_upd (o := .tup [.int o.2.2.1, .int o.2.2.2.1, .int o.2.2.2.2]) nu _ _ hz
        have s11 := s11.trans (same_upd (o := .tup [.int o.2.2.1, .int o.2.2.2.1, .int o.2.2.2.2]) nu)
        generalize upd H12 u (.tup [.int o.2.2.1, .int o.2.2.2.1, .int o.2.2.2.2]) = H13 at gu dz hz s11 ⊢
        refine ⟨zs3, hz, (by rw [sizeLine_eq]; omega), same_put s11 nD3, _, upd_same, (by rw [List.length_append, lz]; rfl), ?_⟩
        rw [List.take_add_one, go, List.map_append, List.map_append]
        exact dpAll_same (sm_wr (by simp)) (dpAll_app' dz (.cons (.tup (.inl (.inl gu)) (.cons (.int _) (.cons (.int _) (.cons (.int _) .nil)))) .nil))
      rintro H11 ⟨s11, zs3, hz, lz, dz⟩
      rw [List.take_of_length_le (by omega), ← eos] at dz
      have dz := dpAll_same off_sub dz
      have s9 := s8'.trans s11
      have f4 := s11 _ _ f4
      have hR := s11 _ _ hR
      have hK := s11 _ _ hK
      have hO := s11 _ _ hO
      have dO := dpAll_same s11 dO
      have dR := dpAll_same (sm_of (S := [R, LK]) s11) dR
      have dK := dpAll_same (sm_of (S := [R, LK]) s11) dK
      have lki := lki.same (sm_of (S := [R, LK]) s11)
      refine ⟨_, rfl, _, rfl, _, rfl, B, xs, tms, c.1, n, rfl, s9.seq hs, dpAll_same s9 da, lt, fun t ht => (tok t ht).1, n60, fun H12 W s12 nW hW => ?_⟩
      have s9 := s9.trans s12
      have f4 := s12 _ _ f4
      have hR := s12 _ _ hR
      have hK := s12 _ _ hK
      have hO := s12 _ _ hO
      have hz := s12 _ _ hz
      have dO := dpAll_same s12 dO
      have dz := dpAll_same s12 dz
      have dR := dpAll_same (sm_of (S := [R, LK]) s12) dR
      have dK := dpAll_same (sm_of (S := [R, LK]) s12) dK
      have lki := lki.same (sm_of (S := [R, LK]) s12)
      have wb := cwL_bd (z := c.1) (n := n) lt
      have gn := ofs_gn (ps := ps) (z := c.1) pal
      have sok := served_ok (ws := cwL c.1 tms n) (fun z hz => (wb z hz).1) gn
      have etk : ∀ {r}, lkF cs ps tms n c.1 = r → (zs.take (i + 1)).filterMap (lkF cs ps tms n) = (zs.take i).filterMap (lkF cs ps tms n) ++ r.toList := fun {r} h => by
        rw [List.take_add_one, gz, List.filterMap_append]
        congr 1
        show List.filterMap _ [c.1] = _
        rw [List.filterMap_cons, h]
        cases r <;> rfl
      refine ⟨D3, W, zs3, ofsF cs ps c.1, cwL c.1 tms n, rfl, SqL.of hz, dz, SqL.of hW, ofs_len pok, (by rw [cwL_len]; exact n60), fun z hz => ⟨(wb z hz).1, by have := (wb z hz).2; omega⟩, gn, fun rows H13 t R2 as e s13 ht nR2 hR2 nas => ?_, fun h S H13 t u L e s13 ht hu nL hL => ?_⟩
      · have OK := sok.1 rows e
        have hT : SqT K H13 t [.ref R2, .non] := .inl (.inl ht)
        refine ⟨t, _, rfl, hT, rfl, _, _, rfl, _, _, rfl, rfl, ?_⟩
        refine ⟨_, rfl, rfl, _, rfl, iteT ?_⟩
        have s9 := s9.trans s13
        have hRn := s13 _ _ hR
        have hKn := s13 _ _ hK
        have f4 := s13 _ _ f4
        have dR := dpAll_same (sm_of (S := [R, LK]) s13) dR
        have dK := dpAll_same (sm_of (S := [R, LK]) s13) dK
        have lki := lki.same (sm_of (S := [R, LK]) s13)
        have enone : lkF cs ps tms n c.1 = none := by unfold lkF; rw [e]
        have len1 : ∀ x, ((rows.map natSort).getD x []).length ≤ 60 ∧ ∀ m ∈ (rows.map natSort).getD x [], m < (selP c.2.2.2 c.1 ps 0).length := fun x => by
          have eg : (rows.map natSort).getD x [] = natSort (rows.getD x []) := by
            rw [List.getD_eq_getElem?_getD, List.getElem?_map, List.getD_eq_getElem?_getD]
            cases rows[x]? with
            | none => show [] = natSort []; unfold natSort; simp
            | some _ => rfl
          rw [eg, (natSort_perm _).length_eq]
          obtain ⟨_, mem⟩ := OK.ri x
          refine ⟨?_, fun m hm => ?_⟩
          · by_cases hx : x < (cwL c.1 tms n).length
            · have h1 := OK.full x hx
              have h2 := (wb _ (List.mem_of_getElem? (List.getElem?_eq_getElem hx))).2
              have e2 : (cwL c.1 tms n).getD x 0 = (cwL c.1 tms n)[x] := by rw [List.getD_eq_getElem?_getD, List.getElem?_eq_getElem hx]; rfl
              rw [e2] at h1
              omega
            · rw [List.getD_eq_getElem?_getD, List.getElem?_eq_none (by rw [OK.len]; omega)]
              exact Nat.zero_le _
          · have := (mem m ((natSort_perm _).mem_iff.mp hm)).1
            rw [eos, List.length_map] at this
            exact this
        have full1 : ∀ x, x < (rows.map natSort).length → ((rows.map natSort).getD x []).length = cw c.1 tms x := fun x hx => by
          rw [List.length_map, OK.len, cwL_len] at hx
          have h1 := OK.full x (by rw [cwL_len]; exact hx)
          rw [cwL_at, if_pos hx] at h1
          have eg : (rows.map natSort).getD x [] = natSort (rows.getD x []) := by
            rw [List.getD_eq_getElem?_getD, List.getElem?_map, List.getD_eq_getElem?_getD]
            cases rows[x]? with
            | none => show [] = natSort []; unfold natSort; simp
            | some _ => rfl
          rw [eg, (natSort_perm _).length_eq]
          omega
        have lrows : (rows.map natSort).length = n := by rw [List.length_map, OK.len, cwL_len]
        refine ⟨_, rfl, .inl ⟨rfl, _, SqL.of hRn⟩, _, rfl, _, rfl, _, rfl, _, rfl, B, O, R2, xs, us, tms, c.1, selP c.2.2.2 c.1 ps 0, as, rows.map natSort, rfl, s9.seq hs, dpAll_same s9 da, lt, SqL.of (s13 _ _ hO), dpAll_same s13 dO, hR2, (by rw [List.length_map, OK.len, cwL_len]; exact n60), len1, full1, fun H14 Lr zsr rsr s14 nr hr14 dr lr e3r p2r cpr ersr => ?_⟩
        have hRn := s14 _ _ hRn
        have hKn := s14 _ _ hKn
        have f4 := s14 _ _ f4
        have dR := dpAll_same (sm_of (S := [R, LK]) s14) dR
        have dK := dpAll_same (sm_of (S := [R, LK]) s14) dK
        have lki := lki.same (sm_of (S := [R, LK]) s14)
        have s9 := s9.trans s14
        have lru := dpAll_map_len dR
        have lzsr := dpAll_map_len dr
        have hi20 : i < 20 := by rw [List.length_map] at hi; omega
        refine ⟨R, Lr, ru, zsr, rfl, rfl, hRn, hr14, (by rw [sizeLine_eq]; omega), ?_⟩
        refine ⟨_, _, _, _, ru ++ zsr, rs ++ rsr, lu, rfl, same_put s9 nR0, (by rw [upd_ne pR]; exact f4), upd_same, ?_, by rw [List.length_append]; omega, (by rw [upd_ne RK.symm]; exact hKn), ?_, ?_, ?_, (by rw [etk enone, Option.toList_none, List.append_nil]; exact lki.same (sm_wr (by simp))), ?_, ?_⟩
        · rw [List.map_append]
          refine dpAll_same (sm_wr (by simp)) (dpAll_app' dR ?_)
          refine dpAll_go (go_offL2 fun x hx => ?_) (noL_wks rsr) dr
          rcases List.mem_cons.mp hx with h | h
          · rw [h]; exact ⟨_, hRn⟩
          · rw [List.mem_singleton.mp h]; exact ⟨_, hKn⟩
        · rw [etk enone, Option.toList_none, List.append_nil]
          exact dpAll_same (sm_wr (by simp)) dK
        · rw [List.map_append, e3, e3r, flat_take gz, lrows]
          congr 1
          unfold r3G rwF o5F
          rw [e, ec]
        · rw [List.map_append, flat_take gz]
          refine p2.append ?_
          rw [lrows] at p2r
          unfold r2G
          rw [e]
          exact p2r
        · intro r hr2
          rcases List.mem_append.mp hr2 with q | q
          · exact cp r q
          · refine ⟨c.1, List.mem_of_getElem? gz, ?_⟩
            unfold rwF o5F
            rw [e, ec]
            exact cpr r q
        · rw [det, ersr, flat_take gz, lrows]
          congr 1
          unfold rsG rwF o5F
          rw [e, ec]
      · have s8L := s9
        have hT : SqT K H13 t [.non, .ref u] := .inl (.inl ht)
        have hU : SqT K H13 u [.int (h : Int), .ref L] := .inl (.inl hu)
        refine ⟨t, _, rfl, hT, rfl, _, _, rfl, _, _, rfl, rfl, ?_⟩
        refine ⟨_, rfl, rfl, _, rfl, iteF ?_⟩
        have esome : lkF cs ps tms n c.1 = some ((h : Int), c.1, natSort S) := by unfold lkF; rw [e]
        have s9 := s9.trans s13
        have hRn := s13 _ _ hR
        have hKn := s13 _ _ hK
        have f4 := s13 _ _ f4
        have dR := dpAll_same (sm_of (S := [R, LK]) s13) dR
        have dK := dpAll_same (sm_of (S := [R, LK]) s13) dK
        have lki := lki.same (sm_of (S := [R, LK]) s13)
        have nL0 : H L = none := s8L.free nL
        have LR : L ≠ R := fun e => by rw [e, hR] at nL; cases nL
        have LK2 : L ≠ LK := fun e => by rw [e, hK] at nL; cases nL
        refine ⟨_, rfl, .inl ⟨rfl, _, SqL.of hKn⟩, _, rfl, u, _, 0, _, rfl, rfl, hU, rfl, _, rfl, _, rfl, u, _, 1, _, rfl, rfl, hU, rfl, (by show 3 ≤ sizeLine; decide), fun t2 n2 => ?_⟩
        have lv2 : Live [R, LK] H13 := fun x hx e => by
          rcases List.mem_cons.mp hx with h | h
          · rw [h, hRn] at e; cases e
          · rw [List.mem_singleton.mp h, hKn] at e; cases e
        have gt := off_new (o := .tup [.int (h : Nat), .str c.1, .ref L]) lv2 n2
        have sp := sm_put (S := [R, LK]) (o := .tup [.int (h : Nat), .str c.1, .ref L]) n2
        have sn := same_upd (o := .tup [.int (h : Nat), .str c.1, .ref L]) n2
        have gL : off H13 [R, LK] L = some (.lst ((natSort S).map nV)) := by rw [off_out (by simp [LR, LK2])]; exact hL
        have gL := sp _ _ gL
        have dR := dpAll_same sp dR
        have dK := dpAll_same sp dK
        have lki := lki.same sp
        have hRn := sn _ _ hRn
        have hKn := sn _ _ hKn
        have f4 := sn _ _ f4
        have s9 := s9.trans sn
        generalize upd H13 t2 (.tup [.int (h : Nat), .str c.1, .ref L]) = H14 at gt gL dR dK lki hRn hKn f4 s9 ⊢
        have llu : lu.length ≤ 20 := by
          rw [dpAll_map_len dK]
          have h1 := List.length_filterMap_le (lkF cs ps tms n) (zs.take i)
          rw [List.length_take] at h1
          omega
        refine ⟨LK, lu, _, rfl, rfl, hKn, (by rw [sizeLine_eq]; omega), ?_⟩
        refine ⟨_, _, _, _, ru, rs, lu ++ [.ref t2], rfl, same_put s9 nK0, (by rw [upd_ne pK]; exact f4), (by rw [upd_ne RK]; exact hRn), dpAll_same (sm_wr (by simp)) dR, by omega, upd_same, ?_, ?_, ?_, ?_, cp, ?_⟩
        rotate_left
        · rw [flat_take gz, e3]
          unfold r3G rwF
          rw [e, r3_none, List.append_nil]
        · rw [flat_take gz]
          unfold r2G
          rw [e, List.append_nil]
          exact p2
        · have ll := dpAll_map_len dK
          rw [etk esome, Option.toList_some]
          exact (lki.same (sm_wr (by simp))).app ll rfl ((sm_wr (by simp)) _ _ gt) ((sm_wr (by simp)) _ _ gL) nL0
        · rw [flat_take gz, det]
          unfold rsG rwF
          rw [e, rs_none, List.append_nil]
        rw [etk esome, Option.toList_some, List.map_append]
        have eL : (natSort S).map nV = ((natSort S).map Int.ofNat).map V.int := by rw [List.map_map]; rfl
        rw [eL] at gL
        exact dpAll_same (sm_wr (by simp)) (dpAll_app' dK (.cons (.tup (.inl (.inl gt)) (.cons (.int _) (.cons (.str _) (.cons (.lst (SqL.of gL) (dp_ints _)) .nil)))) .nil))
    · rintro σ Hx ⟨v6, v7, v8, v9, ru, rs, lu, rfl, s8, f4, hR, dR, lR, hK, dK, e3, p2, lki, cp, det⟩
      rw [List.length_map, List.take_length] at dK e3 p2 lki det
      have hz0 : ∀ c ∈ cs, lkF cs ps tms n c.1 = none → hzF cs ps tms c.1 = 60 := fun c hc e => by
        rw [← hz_cut pal lt hn n60]
        cases e2 : servedF (ofsF cs ps c.1) (cwL c.1 tms n) with
        | inl rows => unfold hourF; rw [e2]
        | inr r =>
          obtain ⟨h, S⟩ := r
          unfold lkF at e
          rw [e2] at e
          cases e
      cases hlk : zs.filterMap (lkF cs ps tms n) with
      | nil =>
        rw [hlk] at dK
        cases dK
        refine ⟨_, rfl, false, .inl ⟨_, SqL.of hK, rfl⟩, iteF ?_⟩
        refine ⟨_, rfl, R, ru, rs, rfl, SqL.of hR, dpAll_same off_sub dR, fun us p5 d5 n5 => ?_⟩
        have f5 : upd Hx p5 (.lst us) p5 = some (.lst us) := upd_same
        have s9 := s8.trans (same_upd (o := .lst us) n5)
        have d6 := dpAll_same (same_upd (o := .lst us) n5) d5
        generalize upd Hx p5 (.lst us) = H14 at f5 s9 d6 ⊢
        refine ⟨(by show 2 ≤ sizeLine; decide), fun t nt => ?_⟩
        refine q1 (fun c hc => ?_) _ t p5 us rs n zs (s9.trans (same_upd nt)) (s8.free n5) upd_same (by rw [upd_ne (fun e => by rw [← e, f5] at nt; cases nt)]; exact f5) (dpAll_same (same_upd nt) d6) (by rw [List.length_map] at lR; omega) ⟨n60, hn, znd, zmem, fun z hz => ?_, e3, p2, cp, det, srt_uniq pm so, mx⟩
        rotate_left
        · have hz1 := List.filterMap_eq_nil_iff.mp hlk z hz
          unfold lkF at hz1
          cases hs1 : servedF (ofsF cs ps z) (cwL z tms n) with
          | inl rows => exact ⟨rows, rfl⟩
          | inr r => rw [hs1] at hz1; cases hz1
        by_cases hz : c.1 ∈ zs
        · refine hz0 c hc ?_
          have := List.filterMap_eq_nil_iff.mp hlk c.1 hz
          exact this
        · exact hz_none pal lt fun t ht e => hz ((zmem _).mpr ⟨t, ht, e⟩)
      | cons d ds =>
        rw [hlk] at dK
        have dK := dpAll_same off_sub dK
        have ne : lu ≠ [] := fun e => by rw [e] at dK; cases dK
        refine ⟨_, rfl, true, .inl ⟨_, SqL.of hK, ?_⟩, iteT ?_⟩
        · cases lu with
          | nil => exact absurd rfl ne
          | cons _ _ => rfl
        have hmem : ∀ r, r ∈ d :: ds → r.2.1 ∈ zs ∧ lkF cs ps tms n r.2.1 = some r := fun r hr => lk_of (by rw [hlk]; exact hr)
        have mf := min_fold (lt := fun a b => PySem.W.dataLt (lkD a) (lkD b)) (k := fun r : Lk => (r.1, r.2.1)) (l := d :: ds) (fun a ha b hb => lk_lt fun e => by
          have h1 := (hmem a ha).2
          have h2 := (hmem b hb).2
          rw [e, h2] at h1
          exact (Option.some.inj h1).symm) ds d [] List.mem_cons_self (fun y hy => List.mem_cons_of_mem _ hy) (fun y hy => (List.not_mem_nil hy).elim)
        have em := minD_enc lkD ds d
        obtain ⟨m, hm⟩ : ∃ m, m = ds.foldl (fun a y => if PySem.W.dataLt (lkD y) (lkD a) then y else a) d := ⟨_, rfl⟩
        rw [← hm] at mf em
        obtain ⟨m1, _, m3⟩ := mf
        obtain ⟨mz, ml⟩ := hmem m m1
        refine ⟨_, rfl, LK, lu, lkD d, ds.map lkD, rfl, SqL.of hK, dK, lk_alike (d :: ds), (by have := lk_depth (d :: ds); exact Nat.le_trans this (by decide)), fun x i gx gm => ?_⟩
        rw [em] at gm
        obtain ⟨dx, gdx, dpx⟩ := dpAll_at dK gx
        have gdx : (lkD d :: ds.map lkD)[i]? = some dx := gdx
        rw [gm] at gdx
        have gdx0 := gm
        obtain rfl := Option.some.inj gdx
        refine ⟨(by show 2 ≤ sizeLine; decide), fun t nt => ?_⟩
        obtain ⟨r0, x2, Lx, gr0, rfl, ft2, fL2, nLx⟩ := lki _ x gx
        rw [hlk] at gr0
        have er0 : r0 = m := by
          have g2 : ((d :: ds).map lkD)[i]? = some (lkD r0) := by rw [List.getElem?_map, gr0]; rfl
          have g3 : ((d :: ds).map lkD)[i]? = some (lkD m) := by rw [List.map_cons, gdx0]
          rw [g2] at g3
          exact lkD_inj (Option.some.inj g3)
        subst er0
        obtain ⟨mh, mc, mS⟩ := r0
        unfold lkF at ml
        split at ml
        · cases ml
        · rename_i h S hsv
          have hsv : servedF (ofsF cs ps mc) (cwL mc tms n) = .inr (h, S) := hsv
          cases Option.some.inj ml
          have wb := cwL_bd (z := mc) (n := n) lt
          have LKR := (served_ok (ws := cwL mc tms n) (fun z hz => (wb z hz).1) (ofs_gn (ps := ps) (z := mc) pal)).2 _ _ hsv
          have hh : hzF cs ps tms mc = (h : Int) := by rw [← hz_cut pal lt hn n60]; unfold hourF; rw [hsv]
          obtain ⟨t0, ht0, et0⟩ := (zmem mc).mp mz
          obtain ⟨c0, hc0, ec0⟩ := (tok t0 ht0).2
          have h60 : h < 60 := by have := LKR.lt; rw [cwL_len] at this; omega
          refine q2 h mc S ⟨by show (h : Int) < 60; omega, ⟨c0, hc0, ec0.trans et0⟩, hh, fun c hc hl => ?_⟩ (lk_cut hn n60 LKR) ⟨n, hn, mx, hsv⟩ _ t x2 Lx (s8.trans (same_upd nt)) nLx upd_same ((same_upd nt) _ _ (at_off ft2)) ((same_upd nt) _ _ (at_off fL2))
          have czs : c.1 ∈ zs := by
            by_cases hz : c.1 ∈ zs
            · exact hz
            · have := hz_none (ps := ps) (cs := cs) pal lt fun t ht e => hz ((zmem c.1).mpr ⟨t, ht, e⟩)
              omega
          cases hc2 : lkF cs ps tms n c.1 with
          | none => have := hz0 c hc hc2; omega
          | some r =>
            have rm : r ∈ d :: ds := by rw [← hlk]; exact List.mem_filterMap.mpr ⟨_, czs, hc2⟩
            have k3 := m3 r rm
            have er : (r.1, r.2.1) = (hzF cs ps tms c.1, c.1) := by
              rw [← hz_cut pal lt hn n60]
              cases e3 : servedF (ofsF cs ps c.1) (cwL c.1 tms n) with
              | inl rows =>
                unfold lkF at hc2
                rw [e3] at hc2
                cases hc2
              | inr r2 =>
                obtain ⟨h2, S2⟩ := r2
                unfold lkF at hc2
                rw [e3] at hc2
                unfold hourF
                rw [e3, ← Option.some.inj hc2]
            have k3 : ¬ klt (r.1, r.2.1) _ := k3
            rw [er] at k3
            exact k3

end
end Pot

namespace Pot
open PySem PySem.Spec PyProof.Rows L2
section
variable {P : Program} {w : World} {K : PySem.W.Frag} {mg : Str → Option Value} {base : Heap}
/-! ### all rows told: in order, as wanted, none twice, none too often -/
theorem dl_pair {β : Type} (enc : β → PyData) (l : List β) : (l.mergeSort (PySem.W.dataLe false enc)).Pairwise fun a b => PySem.W.dataLt (enc b) (enc a) = false := by
  have T := PySem.W.sortLe_total (PyProof.Rows.listOrd PyProof.Rows.itemOrd) false fun b : β => PySem.W.keyToks (enc b)
  have h := List.pairwise_mergeSort (le := PySem.W.dataLe false enc) (fun a b c h1 h2 => T.trans a b c h1 h2) (fun a b => by
    rw [Bool.or_eq_true]; exact T.total a b) l
  refine h.imp fun {a b} e => ?_
  rw [PySem.W.dataLe_eq] at e
  simpa using e
def lwD (r : Int × Str) : PyData := .tuple [.int r.1, .str r.2]
theorem lw_al (a b : Int × Str) : PySem.W.alike (lwD a) (lwD b) = true := by
  unfold lwD
  simp [PySem.W.alike, PySem.W.alikeAll]
theorem lw_tp (a : Int × Str) : ∃ x r, lwD a = .tuple (x :: r) := ⟨_, _, rfl⟩
theorem lw_dep (a : Int × Str) : (lwD a).depth ≤ 60 := by show 1 ≤ 60; decide
theorem lw_lt {a b : Int × Str} : PySem.W.dataLt (lwD a) (lwD b) = true ↔ klt a b := by
  have a1 : ∀ x y : Int, PySem.W.alike (.int x) (.int y) = true := fun _ _ => rfl
  have a2 : ∀ x y : Str, PySem.W.alike (.str x) (.str y) = true := fun _ _ => rfl
  unfold lwD
  rw [PySem.W.dataLt_pair (a1 _ _) (a2 _ _)]
  by_cases e1 : a.1 = b.1
  · have q1 : PyData.eqv (.int a.1) (.int b.1) = true := by rw [e1]; simp [PyData.eqv]
    rw [if_pos q1]
    by_cases e2 : a.2 = b.2
    · have q2 : PyData.eqv (.str a.2) (.str b.2) = true := by rw [e2]; simp [PyData.eqv]
      rw [if_pos q2]
      refine ⟨fun z => (by cases z), fun z => ?_⟩
      have : a = b := Prod.ext e1 e2
      rw [this] at z
      exact absurd z klt_irr
    · have q2 : ¬ PyData.eqv (.str a.2) (.str b.2) = true := fun z => e2 (by simpa [PyData.eqv] using z)
      rw [if_neg q2, PySem.W.dataLt_str, decide_eq_true_eq]
      exact ⟨fun z => .inr ⟨e1, z⟩, fun z => z.elim (fun z => absurd z (by omega)) fun z => z.2⟩
  · have q1 : ¬ PyData.eqv (.int a.1) (.int b.1) = true := fun z => e1 (by simpa [PyData.eqv] using z)
    rw [if_neg q1, PySem.W.dataLt_int, decide_eq_true_eq]
    exact ⟨fun z => .inl z, fun z => z.elim id fun z => absurd z.1 e1⟩
theorem wk_lt {a b : Wk} (h : klt (k2 a) (k2 b)) : PySem.W.dataLt (wkD a) (wkD b) = true := by
  have a1 : ∀ x y : Int, PySem.W.alike (.int x) (.int y) = true := fun _ _ => rfl
  have a2 : ∀ x y : Str, PySem.W.alike (.str x) (.str y) = true := fun _ _ => rfl
  unfold wkD
  rw [PySem.W.dataLt_tuple, PySem.W.dataLt_cons (a1 _ _)]
  rcases h with h | ⟨h1, h2⟩
  · have h : a.1 < b.1 := h
    have q1 : ¬ PyData.eqv (.int a.1) (.int b.1) = true := fun z => by
      have : a.1 = b.1 := by simpa [PyData.eqv] using z
      omega
    rw [if_neg q1, PySem.W.dataLt_int, decide_eq_true_eq]
    exact h
  · have h1 : a.1 = b.1 := h1
    have h2 : a.2.1.cps.toList < b.2.1.cps.toList := h2
    have q1 : PyData.eqv (.int a.1) (.int b.1) = true := by rw [h1]; simp [PyData.eqv]
    rw [if_pos q1, PySem.W.dataLt_cons (a2 _ _)]
    have q2 : ¬ PyData.eqv (.str a.2.1) (.str b.2.1) = true := fun z => by
      have e : a.2.1 = b.2.1 := by simpa [PyData.eqv] using z
      rw [e] at h2
      exact List.lt_irrefl _ h2
    rw [if_neg q2, PySem.W.dataLt_str, decide_eq_true_eq]
    exact h2
theorem k2_sorted {rs : List Wk} {ws : List (Int × Str)} (p : (rs.map k2).Perm ws) : (rs.mergeSort (PySem.W.dataLe false wkD)).map k2 = ws.mergeSort (PySem.W.dataLe false lwD) := by
  refine List.Perm.eq_of_pairwise (le := fun a b => ¬ klt b a) (fun a b _ _ h1 h2 => klt_tri h2 h1) ?_ ?_ ?_
  · refine List.pairwise_map.mpr ((dl_pair wkD rs).imp fun {a b} h z => ?_)
    rw [wk_lt z] at h
    cases h
  · refine (dl_pair lwD ws).imp fun {a b} h z => ?_
    rw [lw_lt.mpr z] at h
    cases h
  · exact (((List.mergeSort_perm rs _).map k2).trans p).trans (List.mergeSort_perm ws _).symm
theorem selT_mem {g : Int} {z : Str} {i : Nat} : ∀ {ts : List Trn} {j : Nat} {o : Off5}, o ∈ selT g z i ts j → ∃ (b : Nat) (t : Trn), ts[b]? = some t ∧ t.2.1 = z ∧ o = (i, j + b, t.2.2.1, t.2.2.2, g)
  | [], _, o, h => (List.not_mem_nil h).elim
  | t :: ts, j, o, h => by
    rcases List.mem_append.mp (show o ∈ (if t.2.1 = z then [((i, j, t.2.2.1, t.2.2.2, g) : Off5)] else []) ++ selT g z i ts (j + 1) from h) with h | h
    · split at h
      · rename_i e
        exact ⟨0, t, rfl, e, List.mem_singleton.mp h⟩
      · exact (List.not_mem_nil h).elim
    · obtain ⟨b, t2, g2, e, eo⟩ := selT_mem h
      exact ⟨b + 1, t2, g2, e, by rw [eo, show j + 1 + b = j + (b + 1) by omega]⟩
theorem selP_mem {g : Int} {z : Str} : ∀ {ps : List (List Trn)} {i : Nat} {o : Off5}, o ∈ selP g z ps i → ∃ (a b : Nat) (ts : List Trn) (t : Trn), ps[a]? = some ts ∧ ts[b]? = some t ∧ t.2.1 = z ∧ o = (i + a, b, t.2.2.1, t.2.2.2, g)
  | [], _, o, h => (List.not_mem_nil h).elim
  | ts :: ps, i, o, h => by
    rcases List.mem_append.mp (show o ∈ selT g z i ts 0 ++ selP g z ps (i + 1) from h) with h | h
    · obtain ⟨b, t, g2, e, eo⟩ := selT_mem h
      exact ⟨0, b, ts, t, rfl, g2, e, by rw [eo, Nat.zero_add]; rfl⟩
    · obtain ⟨a, b, ts2, t, g1, g2, e, eo⟩ := selP_mem h
      exact ⟨a + 1, b, ts2, t, g1, g2, e, by rw [eo, show i + 1 + a = i + (a + 1) by omega]⟩
theorem selT_pw {g : Int} {z : Str} {i : Nat} : ∀ {ts : List Trn} {j : Nat}, (selT g z i ts j).Pairwise fun o o' => (o.1, o.2.1) ≠ (o'.1, o'.2.1)
  | [], _ => .nil
  | t :: ts, j => by
    show ((if t.2.1 = z then [((i, j, t.2.2.1, t.2.2.2, g) : Off5)] else []) ++ selT g z i ts (j + 1)).Pairwise _
    refine List.pairwise_append.mpr ⟨?_, selT_pw, fun o ho o' ho' e => ?_⟩
    · split
      · exact List.pairwise_singleton _ _
      · exact .nil
    · obtain ⟨b, t2, _, _, eo⟩ := selT_mem ho'
      split at ho
      · rw [List.mem_singleton.mp ho, eo] at e
        have := (Prod.mk.inj e).2
        have : j = j + 1 + b := this
        omega
      · exact (List.not_mem_nil ho).elim
theorem selP_pw {g : Int} {z : Str} : ∀ {ps : List (List Trn)} {i : Nat}, (selP g z ps i).Pairwise fun o o' => (o.1, o.2.1) ≠ (o'.1, o'.2.1)
  | [], _ => .nil
  | ts :: ps, i => by
    show (selT g z i ts 0 ++ selP g z ps (i + 1)).Pairwise _
    refine List.pairwise_append.mpr ⟨selT_pw, selP_pw, fun o ho o' ho' e => ?_⟩
    obtain ⟨b, t, _, _, eo⟩ := selT_mem ho
    obtain ⟨a, b2, ts2, t2, _, _, _, eo2⟩ := selP_mem ho'
    rw [eo, eo2] at e
    have : i = i + 1 + a := (Prod.mk.inj e).1
    omega
/-- what an offer tells of its turn -/
theorem o5_turn {cs : List Col} {ps : List (List Trn)} {z : Str} {o : Off5} (h : o ∈ o5F cs ps z) : ∃ (c : Col) (ts : List Trn) (t : Trn), colF cs z = some c ∧ ps[o.1]? = some ts ∧ ts[o.2.1]? = some t ∧ t.2.1 = z ∧ o = (o.1, o.2.1, t.2.2.1, t.2.2.2, c.2.2.2) := by
  unfold o5F at h
  split at h
  · rename_i c ec
    obtain ⟨a, b, ts, t, g1, g2, e, eo⟩ := selP_mem h
    have e1 : o.1 = a := by rw [eo]; exact Nat.zero_add a
    have e2 : o.2.1 = b := by rw [eo]
    have e3 := (colF_in ec).2
    refine ⟨c, ts, t, ec, by rw [e1]; exact g1, by rw [e2]; exact g2, e.trans e3, ?_⟩
    rw [e1, e2]
    conv => lhs; rw [eo]
    rw [Nat.zero_add]
  · exact (List.not_mem_nil h).elim
theorem o5_uniq {cs : List Col} {ps : List (List Trn)} {z : Str} {m m' : Nat} (h : m < (o5F cs ps z).length) (h' : m' < (o5F cs ps z).length) (e : (((o5F cs ps z).getD m o50).1, ((o5F cs ps z).getD m o50).2.1) = (((o5F cs ps z).getD m' o50).1, ((o5F cs ps z).getD m' o50).2.1)) : m = m' := by
  have pw : (o5F cs ps z).Pairwise fun o o' => (o.1, o.2.1) ≠ (o'.1, o'.2.1) := by
    unfold o5F
    split
    · exact selP_pw
    · exact .nil
  have g : ∀ {m}, m < (o5F cs ps z).length → (o5F cs ps z)[m]? = some ((o5F cs ps z).getD m o50) := fun {m} h => by
    rw [List.getD_eq_getElem?_getD, List.getElem?_eq_getElem h]; rfl
  rcases Nat.lt_trichotomy m m' with c | c | c
  · have := List.pairwise_iff_getElem.mp pw m m' h h' c
    rw [show (o5F cs ps z)[m] = (o5F cs ps z).getD m o50 from Option.some.inj ((List.getElem?_eq_getElem h).symm.trans (g h)), show (o5F cs ps z)[m'] = (o5F cs ps z).getD m' o50 from Option.some.inj ((List.getElem?_eq_getElem h').symm.trans (g h'))] at this
    exact absurd e this
  · exact c
  · have := List.pairwise_iff_getElem.mp pw m' m h' h c
    rw [show (o5F cs ps z)[m] = (o5F cs ps z).getD m o50 from Option.some.inj ((List.getElem?_eq_getElem h).symm.trans (g h)), show (o5F cs ps z)[m'] = (o5F cs ps z).getD m' o50 from Option.some.inj ((List.getElem?_eq_getElem h').symm.trans (g h'))] at this
    exact absurd e.symm this

end
end Pot

namespace Pot
open PySem PySem.Spec PyProof.Rows L2
section
variable {P : Program} {w : World} {K : PySem.W.Frag} {mg : Str → Option Value} {base : Heap}
theorem rw_at {cs : List Col} {ps : List (List Trn)} {tms : List Tm} {n : Nat} {z : Str} {rows : List (List Nat)} (e : servedF (ofsF cs ps z) (cwL z tms n) = .inl rows) (i : Nat) : (rwF cs ps tms n z).getD i [] = natSort (rows.getD i []) := by
  unfold rwF
  rw [e]
  show (rows.map natSort).getD i [] = _
  rw [List.getD_eq_getElem?_getD, List.getElem?_map, List.getD_eq_getElem?_getD]
  cases rows[i]? with
  | none => show [] = natSort []; unfold natSort; simp
  | some _ => rfl
theorem o5_ofs {cs : List Col} {ps : List (List Trn)} {z : Str} : ofsF cs ps z = (o5F cs ps z).map fun o => o.2.2 := by
  unfold ofsF o5F
  cases colF cs z <;> rfl
theorem o5_len {cs : List Col} {ps : List (List Trn)} {z : Str} : (ofsF cs ps z).length = (o5F cs ps z).length := by rw [o5_ofs, List.length_map]
/-- the rows of a colour as they must be -/
theorem ok_z {cs : List Col} {ws : List Wsh} {ps : List (List Trn)} {tms : List Tm} {n : Nat} {z : Str} {rows : List (List Nat)} (pal : PalE cs ws) (l : tms.length ≤ 20) (e : servedF (ofsF cs ps z) (cwL z tms n) = .inl rows) : OkR (ofsF cs ps z) (cwL z tms n) rows :=
  (served_ok (fun z hz => (cwL_bd l z hz).1) (ofs_gn pal)).1 rows e
theorem cnt_one {l : List Nat} {m : Nat} (nd : l.Nodup) : ((l.countP fun x => decide (x = m) : Nat) : Int) = if m ∈ l then 1 else 0 := by
  induction l with
  | nil => rfl
  | cons x l ih =>
    obtain ⟨h1, h2⟩ := List.nodup_cons.mp nd
    rw [List.countP_cons, Int.natCast_add, ih h2]
    by_cases e : x = m
    · subst e
      rw [if_neg h1, if_pos List.mem_cons_self, decide_eq_true rfl]; rfl
    · rw [decide_eq_false e]
      have : m ∈ x :: l ↔ m ∈ l := by rw [List.mem_cons]; exact ⟨fun h => h.elim (fun h => absurd h.symm e) id, .inr⟩
      by_cases c : m ∈ l
      · rw [if_pos c, if_pos (this.mpr c)]; rfl
      · rw [if_neg c, if_neg (fun h => c (this.mp h))]; rfl
def kyF (o : Off5) : Int × Int := (((o.1 : Nat) : Int), ((o.2.1 : Nat) : Int))
theorem cnt_r3 {o5 : List Off5} {rows : List (List Nat)} {m : Nat} (H : ∀ i, (rows.getD i []).Nodup ∧ ∀ x ∈ rows.getD i [], kyF (o5.getD x o50) = kyF (o5.getD m o50) → x = m) : ∀ n, (((r3F o5 rows n).countP fun x => decide (x.2 = kyF (o5.getD m o50)) : Nat) : Int) = sg (fun i => if m ∈ rows.getD i [] then 1 else 0) n
  | 0 => rfl
  | n + 1 => by
    rw [r3_one, List.countP_append, Int.natCast_add, cnt_r3 H n, List.countP_map]
    show _ = sg _ n + _
    congr 1
    show _ = if m ∈ rows.getD n [] then 1 else 0
    rw [← cnt_one (H n).1]
    congr 1
    refine List.countP_congr fun x hx => ?_
    show decide (kyF (o5.getD x o50) = kyF (o5.getD m o50)) = true ↔ _
    rw [decide_eq_true_eq, decide_eq_true_eq]
    exact ⟨(H n).2 x hx, fun e => by rw [e]⟩
theorem ky_inj {o o' : Off5} (h : kyF o = kyF o') : (o.1, o.2.1) = (o'.1, o'.2.1) := by
  have h1 := (Prod.mk.inj h).1
  have h2 := (Prod.mk.inj h).2
  rw [show o.1 = o'.1 by omega, show o.2.1 = o'.2.1 by omega]
theorem o5_at {cs : List Col} {ps : List (List Trn)} {z : Str} {m : Nat} (h : m < (o5F cs ps z).length) : (o5F cs ps z).getD m o50 ∈ o5F cs ps z := by
  rw [List.getD_eq_getElem?_getD, List.getElem?_eq_getElem h]
  exact List.getElem_mem h
/-- offers of two colours are of two turns -/
theorem o5_colour {cs : List Col} {ps : List (List Trn)} {z z' : Str} {o o' : Off5} (h : o ∈ o5F cs ps z) (h' : o' ∈ o5F cs ps z') (e : kyF o = kyF o') : z = z' := by
  obtain ⟨_, ts, t, _, g1, g2, e1, _⟩ := o5_turn h
  obtain ⟨_, ts', t', _, g1', g2', e1', _⟩ := o5_turn h'
  have e := ky_inj e
  rw [← (Prod.mk.inj e).1] at g1'
  rw [← (Prod.mk.inj e).2] at g2'
  rw [g1] at g1'
  cases g1'
  rw [g2] at g2'
  cases g2'
  rw [← e1, ← e1']
theorem sum_one {f : Str → Nat} {z : Str} : ∀ {zs : List Str}, zs.Nodup → (∀ y ∈ zs, y ≠ z → f y = 0) → (zs.map f).sum ≤ f z
  | [], _, _ => Nat.zero_le _
  | y :: zs, nd, h => by
    obtain ⟨h1, h2⟩ := List.nodup_cons.mp nd
    rw [List.map_cons, List.sum_cons]
    by_cases e : y = z
    · have : (zs.map f).sum = 0 := by
        have hw : ∀ w ∈ zs, f w = 0 := fun w hw => h w (List.mem_cons_of_mem _ hw) fun q => h1 (by rw [e, ← q]; exact hw)
        clear h2 h1 nd h
        induction zs with
        | nil => rfl
        | cons w l ih => rw [List.map_cons, List.sum_cons, hw w List.mem_cons_self, ih fun y hy => hw y (List.mem_cons_of_mem _ hy)]
      rw [this, e]; exact Nat.le_refl _
    · rw [h y List.mem_cons_self e, Nat.zero_add]
      exact sum_one h2 fun w hw => h w (List.mem_cons_of_mem _ hw)
theorem r3_mem {cs : List Col} {ws : List Wsh} {ps : List (List Trn)} {tms : List Tm} {n : Nat} {z : Str} {rows : List (List Nat)} (pal : PalE cs ws) (l : tms.length ≤ 20) (e : servedF (ofsF cs ps z) (cwL z tms n) = .inl rows) {x : Int × Int × Int} (h : x ∈ r3G cs ps tms n z) : ∃ i m : Nat, i < n ∧ m ∈ rows.getD i [] ∧ m < (o5F cs ps z).length ∧ x = (((i : Nat) : Int), kyF ((o5F cs ps z).getD m o50)) := by
  obtain ⟨i, hi, hx⟩ := List.mem_flatMap.mp h
  obtain ⟨m, hm, rfl⟩ := List.mem_map.mp hx
  rw [rw_at e] at hm
  have hm := (natSort_perm _).mem_iff.mp hm
  have OK := ok_z pal l e
  exact ⟨i, m, List.mem_range.mp hi, hm, by have := ((OK.ri i).2 m hm).1; rw [o5_len] at this; exact this, rfl⟩
theorem cnt_le {cs : List Col} {ws : List Wsh} {ps : List (List Trn)} {tms : List Tm} {n : Nat} {zs : List Str} {rs : List Wk} (pal : PalE cs ws) (l : tms.length ≤ 20) (A : AllR cs ps tms n zs rs) {z : Str} (hz : z ∈ zs) {m : Nat} (hm : m < (o5F cs ps z).length) : (((rs.map k3).countP fun x => decide (x.2 = kyF ((o5F cs ps z).getD m o50)) : Nat) : Int) ≤ ((o5F cs ps z).getD m o50).2.2.2.2 := by
  obtain ⟨rows, e⟩ := A.ok z hz
  have OK := ok_z pal l e
  have h1 : ((rs.map k3).countP fun x => decide (x.2 = kyF ((o5F cs ps z).getD m o50))) ≤ (r3G cs ps tms n z).countP fun x => decide (x.2 = kyF ((o5F cs ps z).getD m o50)) := by
    rw [A.e3, List.countP_flatMap]
    refine sum_one (f := fun y => (r3G cs ps tms n y).countP fun x => decide (x.2 = kyF ((o5F cs ps z).getD m o50))) A.nd fun y hy ne => ?_
    obtain ⟨rows', e'⟩ := A.ok y hy
    refine List.countP_eq_zero.mpr fun x hx q => ?_
    obtain ⟨i, m', _, _, hm', rfl⟩ := r3_mem pal l e' hx
    exact ne (o5_colour (o5_at hm') (o5_at hm) (of_decide_eq_true q))
  have h2 := cnt_r3 (o5 := o5F cs ps z) (rows := rwF cs ps tms n z) (m := m) (fun i => by
    rw [rw_at e]
    refine ⟨nsort_nodup (OK.ri i).1, fun x hx q => ?_⟩
    have := ((OK.ri i).2 x ((natSort_perm _).mem_iff.mp hx)).1
    rw [o5_len] at this
    exact o5_uniq this hm (ky_inj q)) n
  have h3 := OK.us m (by rw [o5_len]; exact hm)
  have h4 : gaF (ofsF cs ps z) m = ((o5F cs ps z).getD m o50).2.2.2.2 := by
    unfold gaF
    rw [o5_ofs, List.getD_eq_getElem?_getD, List.getElem?_map, List.getElem?_eq_getElem hm, List.getD_eq_getElem?_getD, List.getElem?_eq_getElem hm]; rfl
  have h5 : sg (fun i => if m ∈ (rwF cs ps tms n z).getD i [] then 1 else 0) n = usedF rows m := by
    unfold usedF
    rw [OK.len, cwL_len]
    refine sg_congr fun i _ => ?_
    rw [rw_at e]
    by_cases c : m ∈ rows.getD i []
    · rw [if_pos c, if_pos ((natSort_perm _).mem_iff.mpr c)]
    · rw [if_neg c, if_neg fun h => c ((natSort_perm _).mem_iff.mp h)]
  rw [h5] at h2
  unfold r3G at h1
  rw [← h4]
  omega
/-- none twice -/
theorem k3_nodup {cs : List Col} {ws : List Wsh} {ps : List (List Trn)} {tms : List Tm} {n : Nat} {zs : List Str} {rs : List Wk} (pal : PalE cs ws) (l : tms.length ≤ 20) (A : AllR cs ps tms n zs rs) : (rs.map k3).Nodup := by
  rw [A.e3]
  refine List.pairwise_flatMap.mpr ⟨fun z hz => ?_, A.nd.imp_of_mem fun {z z'} hz hz' ne x hx y hy q => ?_⟩
  · obtain ⟨rows, e⟩ := A.ok z hz
    have OK := ok_z pal l e
    unfold r3G r3F
    refine List.pairwise_flatMap.mpr ⟨fun i hi => ?_, List.nodup_range.imp fun {i i'} ne x hx y hy q => ?_⟩
    · refine List.pairwise_map.mpr ?_
      rw [rw_at e]
      refine (nsort_nodup (OK.ri i).1).imp_of_mem fun {x y} hx hy ne q => ne ?_
      have bx := ((OK.ri i).2 x ((natSort_perm _).mem_iff.mp hx)).1
      have bY := ((OK.ri i).2 y ((natSort_perm _).mem_iff.mp hy)).1
      rw [o5_len] at bx bY
      exact o5_uniq bx bY (ky_inj (Prod.mk.inj q).2)
    · obtain ⟨_, _, rfl⟩ := List.mem_map.mp hx
      obtain ⟨_, _, rfl⟩ := List.mem_map.mp hy
      have := (Prod.mk.inj q).1
      exact ne (by omega)
  · obtain ⟨rows, e⟩ := A.ok z hz
    obtain ⟨rows', e'⟩ := A.ok z' hz'
    obtain ⟨i, m, _, _, hm, rfl⟩ := r3_mem pal l e hx
    obtain ⟨i', m', _, _, hm', rfl⟩ := r3_mem pal l e' hy
    exact ne (o5_colour (o5_at hm) (o5_at hm') (Prod.mk.inj q).2)
/-- what all teams want -/
def wantedF (tms : List Tm) : List (Int × Str) := tms.flatMap fun t => (List.range (t.2.2.2 - t.2.2.1).toNat).map fun i => (t.2.2.1 + ((i : Nat) : Int), t.1)
theorem mem_wF {z : Str} {tms : List Tm} {h : Nat} {y : Str} : y ∈ wF z tms h ↔ ∃ t ∈ tms, t.1 = y ∧ t.2.1 = z ∧ t.2.2.1 ≤ (h : Int) ∧ (h : Int) < t.2.2.2 := by
  unfold wF wantB
  rw [List.mem_map]
  constructor
  · rintro ⟨t, ht, rfl⟩
    obtain ⟨h1, h2⟩ := List.mem_filter.mp ht
    simp only [Bool.and_eq_true, decide_eq_true_eq] at h2
    exact ⟨t, h1, rfl, h2⟩
  · rintro ⟨t, h1, rfl, h2⟩
    exact ⟨t, List.mem_filter.mpr ⟨h1, by simp only [Bool.and_eq_true, decide_eq_true_eq]; exact h2⟩, rfl⟩
theorem tm_uniq {tms : List Tm} (nd : (tms.map fun t => t.1).Nodup) {t t' : Tm} (h : t ∈ tms) (h' : t' ∈ tms) (e : t.1 = t'.1) : t = t' := by
  induction tms with
  | nil => exact (List.not_mem_nil h).elim
  | cons x l ih =>
    rw [List.map_cons] at nd
    obtain ⟨h1, h2⟩ := List.nodup_cons.mp nd
    rcases List.mem_cons.mp h with a | a
    · rcases List.mem_cons.mp h' with b | b
      · rw [a, b]
      · exact absurd (List.mem_map.mpr ⟨t', b, by rw [← e, a]⟩) h1
    · rcases List.mem_cons.mp h' with b | b
      · exact absurd (List.mem_map.mpr ⟨t, a, by rw [e, b]⟩) h1
      · exact ih h2 a b
theorem wanted_perm {cs : List Col} {ps : List (List Trn)} {tms : List Tm} {n : Nat} {zs : List Str} {rs : List Wk} (A : AllR cs ps tms n zs rs) (nd : (tms.map fun t => t.1).Nodup) (h0 : ∀ t ∈ tms, 0 ≤ t.2.2.1) : (rs.map k2).Perm (wantedF tms) := by
  refine A.p2.trans ?_
  have er : zs.flatMap (r2G cs ps tms n) = zs.flatMap fun z => r2F z tms n := by
    rw [List.flatMap_def, List.flatMap_def]
    refine congrArg List.flatten (List.map_congr_left fun z hz => ?_)
    obtain ⟨rows, e⟩ := A.ok z hz
    unfold r2G
    rw [e]
  rw [er]
  refine (List.perm_ext_iff_of_nodup ?_ ?_).mpr fun x => ?_
  · refine List.pairwise_flatMap.mpr ⟨fun z hz => ?_, A.nd.imp fun {z z'} ne x hx y hy q => ?_⟩
    · unfold r2F
      refine List.pairwise_flatMap.mpr ⟨fun i hi => ?_, List.nodup_range.imp fun {i i'} ne x hx y hy q => ?_⟩
      · refine List.pairwise_map.mpr ?_
        refine List.Pairwise.imp (R := fun a b => a ≠ b) (fun {a b} h q => h (Prod.mk.inj q).2) ?_
        unfold wF
        exact nd.sublist (List.filter_sublist.map _)
      · obtain ⟨_, _, rfl⟩ := List.mem_map.mp hx
        obtain ⟨_, _, rfl⟩ := List.mem_map.mp hy
        have := (Prod.mk.inj q).1
        exact ne (by omega)
    · obtain ⟨i, _, hx⟩ := List.mem_flatMap.mp hx
      obtain ⟨a, ha, rfl⟩ := List.mem_map.mp hx
      obtain ⟨i', _, hy⟩ := List.mem_flatMap.mp hy
      obtain ⟨b, hb, rfl⟩ := List.mem_map.mp hy
      obtain ⟨t, ht, e1, e2, _⟩ := mem_wF.mp ha
      obtain ⟨t', ht', e1', e2', _⟩ := mem_wF.mp hb
      have := tm_uniq nd ht ht' (by rw [e1, e1']; exact (Prod.mk.inj q).2)
      rw [this] at e2
      exact ne (e2.symm.trans e2')
  · unfold wantedF
    refine List.pairwise_flatMap.mpr ⟨fun t ht => ?_, ?_⟩
    · refine List.pairwise_map.mpr (List.nodup_range.imp fun {i i'} ne q => ne ?_)
      have := (Prod.mk.inj q).1
      omega
    · refine (List.pairwise_map.mp nd).imp fun {t t'} ne x hx y hy q => ne ?_
      obtain ⟨_, _, rfl⟩ := List.mem_map.mp hx
      obtain ⟨_, _, rfl⟩ := List.mem_map.mp hy
      exact (Prod.mk.inj q).2
  · constructor
    · intro hx
      obtain ⟨z, hz, hx⟩ := List.mem_flatMap.mp hx
      obtain ⟨i, hi, hx⟩ := List.mem_flatMap.mp hx
      obtain ⟨y, hy, rfl⟩ := List.mem_map.mp hx
      obtain ⟨t, ht, e1, e2, e3, e4⟩ := mem_wF.mp hy
      refine List.mem_flatMap.mpr ⟨t, ht, List.mem_map.mpr ⟨(((i : Nat) : Int) - t.2.2.1).toNat, List.mem_range.mpr (by omega), ?_⟩⟩
      rw [e1, show t.2.2.1 + (((((i : Nat) : Int) - t.2.2.1).toNat : Nat) : Int) = ((i : Nat) : Int) by omega]
    · intro hx
      obtain ⟨t, ht, hx⟩ := List.mem_flatMap.mp hx
      obtain ⟨i, hi, rfl⟩ := List.mem_map.mp hx
      have hi := List.mem_range.mp hi
      have a0 := h0 t ht
      have a1 := A.last t ht
      refine List.mem_flatMap.mpr ⟨t.2.1, (A.mem _).mpr ⟨t, ht, rfl⟩, List.mem_flatMap.mpr ⟨(t.2.2.1 + ((i : Nat) : Int)).toNat, List.mem_range.mpr (by omega), List.mem_map.mpr ⟨t.1, mem_wF.mpr ⟨t, ht, rfl, rfl, by omega, by omega⟩, ?_⟩⟩⟩
      rw [show (((t.2.2.1 + ((i : Nat) : Int)).toNat : Nat) : Int) = t.2.2.1 + ((i : Nat) : Int) by omega]
/-- asked again, the same rows are told -/
theorem all_det {cs : List Col} {ps : List (List Trn)} {tms : List Tm} {n n' : Nat} {zs zs' : List Str} {rs rs' : List Wk} (A : AllR cs ps tms n zs rs) (B : AllR cs ps tms n' zs' rs') : rs = rs' := by
  have en : n = n' := by
    rcases A.mx with ⟨e, e2⟩ | ⟨t, ht, e⟩
    · rcases B.mx with ⟨e', _⟩ | ⟨t', ht', _⟩
      · omega
      · rw [e2] at ht'; cases ht'
    · rcases B.mx with ⟨_, e2⟩ | ⟨t', ht', e'⟩
      · rw [e2] at ht; cases ht
      · have h1 := B.last t ht
        have h2 := A.last t' ht'
        omega
  have ez : zs = zs' := A.so.trans B.so.symm
  rw [A.det, B.det, en, ez]
/-- no more rows than hours of all teams -/
theorem all_len {cs : List Col} {ps : List (List Trn)} {tms : List Tm} {n : Nat} {zs : List Str} {rs : List Wk} (A : AllR cs ps tms n zs rs) (nd : (tms.map fun t => t.1).Nodup) (h0 : ∀ t ∈ tms, 0 ≤ t.2.2.1) : rs.length ≤ 60 * tms.length := by
  have p := (wanted_perm A nd h0).length_eq
  rw [List.length_map] at p
  rw [p]
  have l60 : ∀ t ∈ tms, (t.2.2.2 - t.2.2.1).toNat ≤ 60 := fun t ht => by
    have := A.last t ht
    have := h0 t ht
    have := A.n60
    omega
  clear p A nd h0
  unfold wantedF
  induction tms with
  | nil => exact Nat.zero_le _
  | cons t l ih =>
    have := ih fun x hx => l60 x (List.mem_cons_of_mem _ hx)
    have := l60 t List.mem_cons_self
    rw [List.flatMap_cons, List.length_append, List.length_map, List.length_range, List.length_cons]
    omega

end
end Pot

namespace Pot
open PySem PySem.Spec PyProof.Rows L2
section
variable {P : Program} {w : World} {K : PySem.W.Frag} {mg : Str → Option Value} {base : Heap}
/-- the gathers of a turn's colour -/
def gaK (cs : List Col) (ps : List (List Trn)) (k : Int × Int) : Int := match ps[k.1.toNat]? with
  | some ts => match ts[k.2.toNat]? with
    | some t => match colF cs t.2.1 with
      | some c => c.2.2.2
      | none => 0
    | none => 0
  | none => 0
structure RowK (cs : List Col) (ps : List (List Trn)) (tms : List Tm) (r : Wk) (a b : Nat) (ts : List Trn) (t : Trn) (c : Col) (tm : Tm) : Prop where
  p1 : r.2.2.1 = ((a : Nat) : Int)
  p2 : r.2.2.2 = ((b : Nat) : Int)
  g1 : ps[a]? = some ts
  g2 : ts[b]? = some t
  c1 : colF cs t.2.1 = some c
  m : tm ∈ tms
  n : tm.1 = r.2.1
  e : tm.2.1 = t.2.1
  lo : t.2.2.1 ≤ r.1
  hi : r.1 < t.2.2.2
theorem row_ok {cs : List Col} {ws : List Wsh} {ps : List (List Trn)} {tms : List Tm} {n : Nat} {zs : List Str} {rs : List Wk} (pal : PalE cs ws) (l : tms.length ≤ 20) (A : AllR cs ps tms n zs rs) {r : Wk} (hr : r ∈ rs) : ∃ a b ts t c tm, RowK cs ps tms r a b ts t c tm ∧ (((rs.map k3).countP fun x => decide (x.2 = r.2.2) : Nat) : Int) ≤ c.2.2.2 := by
  obtain ⟨z, hz, i, m, e1, hi, hw, hm, e2, e3⟩ := A.cp r hr
  obtain ⟨rows, e⟩ := A.ok z hz
  have OK := ok_z pal l e
  rw [rw_at e] at hm
  have hm := (natSort_perm _).mem_iff.mp hm
  obtain ⟨lm, w1, w2⟩ := (OK.ri i).2 m hm
  rw [o5_len] at lm
  obtain ⟨c, ts, t, ec, g1, g2, et, eo⟩ := o5_turn (o5_at lm)
  obtain ⟨tm, htm, n1, n2, _, _⟩ := mem_wF.mp hw
  have eos : (ofsF cs ps z).getD m o0 = ((o5F cs ps z).getD m o50).2.2 := by
    rw [o5_ofs, List.getD_eq_getElem?_getD, List.getElem?_map, List.getElem?_eq_getElem lm, List.getD_eq_getElem?_getD, List.getElem?_eq_getElem lm]; rfl
  rw [eos] at w1 w2
  have cl := cnt_le pal l A hz lm
  have ek : kyF ((o5F cs ps z).getD m o50) = r.2.2 := Prod.ext e2.symm e3.symm
  rw [ek] at cl
  have eg : ((o5F cs ps z).getD m o50).2.2.2.2 = c.2.2.2 := by rw [eo]
  have eb : ((o5F cs ps z).getD m o50).2.2.1 = t.2.2.1 := by rw [eo]
  have ee : ((o5F cs ps z).getD m o50).2.2.2.1 = t.2.2.2 := by rw [eo]
  rw [eb] at w1
  rw [ee] at w2
  rw [eg] at cl
  exact ⟨_, _, ts, t, c, tm, ⟨e2, e3, g1, g2, by rw [et]; exact ec, htm, n1, n2.trans et.symm, by rw [e1]; exact w1, by rw [e1]; exact w2⟩, cl⟩
theorem RowK.ga {cs : List Col} {ps : List (List Trn)} {tms : List Tm} {r : Wk} {a b : Nat} {ts : List Trn} {t : Trn} {c : Col} {tm : Tm} (h : RowK cs ps tms r a b ts t c tm) : gaK cs ps r.2.2 = c.2.2.2 := by
  unfold gaK
  rw [h.p1, h.p2, Int.toNat_natCast, Int.toNat_natCast, h.g1]
  dsimp only
  rw [h.g2]
  dsimp only
  rw [h.c1]
/-- what is left of each turn, while the rows are gone through -/
def kyL (k : Int × Int) : List Key := [.inl k.1, .inl k.2]
theorem kyL_inj {k k' : Int × Int} (h : kyL k = kyL k') : k = k' := by
  unfold kyL at h
  simp only [List.cons.injEq, Sum.inl.injEq, and_true] at h
  exact Prod.ext h.1 h.2
def cnK (l : List Wk) (k : Int × Int) : Nat := l.countP fun r => decide (r.2.2 = k)
def lfS (G : Int × Int → Int) (acc : List (List Key × V)) (r : Wk) : List (List Key × V) := putK acc (kyL r.2.2) (.int (vI ((valV acc (kyL r.2.2)).getD (.int (G r.2.2))) - 1))
where vI : V → Int
  | .int i => i
  | _ => 0
def leftF (G : Int × Int → Int) (l : List Wk) : List (List Key × V) := l.foldl (lfS G) []
theorem mem_put {κ : Type} [DecidableEq κ] {kvs : List (κ × V)} {k : κ} {v : V} {e : κ × V} (h : e ∈ putK kvs k v) : e = (k, v) ∨ e ∈ kvs ∧ e.1 ≠ k := by
  unfold putK at h
  split at h
  · obtain ⟨x, hx, rfl⟩ := List.mem_map.mp h
    by_cases c : x.1 = k
    · rw [if_pos c, c]; exact .inl rfl
    · rw [if_neg c]; exact .inr ⟨hx, c⟩
  · rename_i n
    rcases List.mem_append.mp h with q | q
    · refine .inr ⟨q, fun c => n ?_⟩
      rw [List.any_eq_true]
      exact ⟨e, q, decide_eq_true c⟩
    · exact .inl (List.mem_singleton.mp q)
theorem cn_snoc (l' : List Wk) (r : Wk) (k : Int × Int) : cnK (l' ++ [r]) k = cnK l' k + if r.2.2 = k then 1 else 0 := by
  unfold cnK
  rw [List.countP_append, List.countP_cons, List.countP_nil, Nat.zero_add]
  by_cases c : r.2.2 = k
  · rw [if_pos c, decide_eq_true c, if_pos rfl]
  · rw [if_neg c, decide_eq_false c]; rfl
theorem left_snoc (G : Int × Int → Int) (l' : List Wk) (r : Wk) : leftF G (l' ++ [r]) = lfS G (leftF G l') r := by
  unfold leftF
  rw [List.foldl_append]; rfl
theorem left_val (G : Int × Int → Int) : ∀ (n : Nat) (l : List Wk), l.length = n → ∀ k, valV (leftF G l) (kyL k) = if cnK l k = 0 then none else some (.int (G k - (cnK l k : Nat)))
  | 0, l, e, k => by
    rw [List.eq_nil_of_length_eq_zero e]; rfl
  | n + 1, l, e, k => by
    obtain ⟨l', r, rfl⟩ : ∃ l' r, l = l' ++ [r] := ⟨l.dropLast, l.getLast (fun h => by rw [h] at e; cases e), (List.dropLast_concat_getLast _).symm⟩
    have ih := left_val G n l' (by rw [List.length_append] at e; exact Nat.succ.inj e)
    rw [left_snoc, cn_snoc]
    unfold lfS
    rw [valV_put]
    by_cases c : r.2.2 = k
    · subst c
      have h1 : ∀ x : V, (if kyL r.2.2 = kyL r.2.2 then some x else valV (leftF G l') (kyL r.2.2)) = some x := fun x => if_pos rfl
      rw [h1, if_pos (rfl : r.2.2 = r.2.2), if_neg (Nat.succ_ne_zero _), ih r.2.2]
      by_cases c0 : cnK l' r.2.2 = 0
      · rw [if_pos c0, c0]; rfl
      · rw [if_neg c0]
        show some (V.int (G r.2.2 - (cnK l' r.2.2 : Nat) - 1)) = some (V.int (G r.2.2 - ((cnK l' r.2.2 + 1 : Nat) : Int)))
        congr 2
        omega
    · rw [if_neg (show ¬ kyL k = kyL r.2.2 from fun q => c (kyL_inj q).symm), if_neg c, ih k, Nat.add_zero]
theorem left_mem (G : Int × Int → Int) : ∀ (n : Nat) (l : List Wk), l.length = n → ∀ e ∈ leftF G l, ∃ k, e.1 = kyL k ∧ cnK l k ≠ 0 ∧ e.2 = .int (G k - (cnK l k : Nat))
  | 0, l, h, e, he => by
    rw [List.eq_nil_of_length_eq_zero h] at he
    exact (List.not_mem_nil he).elim
  | n + 1, l, h, e, he => by
    obtain ⟨l', r, rfl⟩ : ∃ l' r, l = l' ++ [r] := ⟨l.dropLast, l.getLast (fun q => by rw [q] at h; cases h), (List.dropLast_concat_getLast _).symm⟩
    have hl : l'.length = n := by rw [List.length_append] at h; exact Nat.succ.inj h
    have lv := left_val G (n + 1) (l' ++ [r]) h r.2.2
    rw [left_snoc] at he lv
    unfold lfS at he lv
    rw [valV_put] at lv
    have h1 : ∀ x : V, (if kyL r.2.2 = kyL r.2.2 then some x else valV (leftF G l') (kyL r.2.2)) = some x := fun x => if_pos rfl
    rw [h1] at lv
    have cr : cnK (l' ++ [r]) r.2.2 ≠ 0 := by rw [cn_snoc, if_pos (rfl : r.2.2 = r.2.2)]; exact Nat.succ_ne_zero _
    rw [if_neg cr] at lv
    rcases mem_put he with q | ⟨q, ne⟩
    · rw [q]
      exact ⟨r.2.2, rfl, cr, Option.some.inj lv⟩
    · obtain ⟨k, e1, e2, e3⟩ := left_mem G n l' hl e q
      have c : ¬ r.2.2 = k := fun c => ne (by rw [e1, c])
      exact ⟨k, e1, by rw [cn_snoc, if_neg c]; exact e2, by rw [cn_snoc, if_neg c]; exact e3⟩
theorem put_len {κ : Type} [DecidableEq κ] (kvs : List (κ × V)) (k : κ) (v : V) : (putK kvs k v).length ≤ kvs.length + 1 := by
  unfold putK
  split
  · rw [List.length_map]; omega
  · rw [List.length_append]; exact Nat.le_refl _
theorem left_len (G : Int × Int → Int) : ∀ (n : Nat) (l : List Wk), l.length = n → (leftF G l).length ≤ n
  | 0, l, h => by
    rw [List.eq_nil_of_length_eq_zero h]
    exact Nat.le_refl _
  | n + 1, l, h => by
    obtain ⟨l', r, rfl⟩ : ∃ l' r, l = l' ++ [r] := ⟨l.dropLast, l.getLast (fun q => by rw [q] at h; cases h), (List.dropLast_concat_getLast _).symm⟩
    have := left_len G n l' (by rw [List.length_append] at h; exact Nat.succ.inj h)
    rw [left_snoc]
    unfold lfS
    exact Nat.le_trans (put_len _ _ _) (by omega)
/-- those rows that were, by hour, pot and number -/
def tkL (r : Wk) : List Key := [.inl r.1, .inl r.2.2.1, .inl r.2.2.2]
def takF (l : List Wk) : List (List Key × V) := l.map fun r => (tkL r, V.bl true)
theorem tkL_k3 {r r' : Wk} (h : tkL r = tkL r') : k3 r = k3 r' := by
  unfold tkL at h
  simp only [List.cons.injEq, Sum.inl.injEq, and_true] at h
  unfold k3
  rw [h.1, h.2.1, h.2.2]
theorem tak_none {l : List Wk} {r : Wk} (h : k3 r ∉ l.map k3) : valV (takF l) (tkL r) = none := by
  unfold valV takF
  rw [Option.map_eq_none_iff, List.find?_eq_none]
  intro x hx
  obtain ⟨y, hy, rfl⟩ := List.mem_map.mp hx
  intro q
  exact h (by rw [← tkL_k3 (of_decide_eq_true q)]; exact List.mem_map.mpr ⟨y, hy, rfl⟩)

end
end Pot

namespace Pot
open PySem PySem.Spec PyProof.Rows L2
section
variable {P : Program} {w : World} {K : PySem.W.Frag} {mg : Str → Option Value} {base : Heap}
theorem wk_dp {H : Hp} {v : V} {r : Wk} (h : Dp K H v (wkD r)) : ∃ t, v = .ref t ∧ SqT K H t [.int r.1, .str r.2.1, .int r.2.2.1, .int r.2.2.2] := by
  cases h with
  | tup h a =>
    cases a with
    | cons h1 t => cases t with
      | cons h2 t => cases t with
        | cons h3 t => cases t with
          | cons h4 t => cases t; cases h1; cases h2; cases h3; cases h4; exact ⟨_, rfl, h⟩
theorem noL_lws : ∀ rs : List (Int × Str), noLAll (rs.map lwD)
  | [] => trivial
  | _ :: r => ⟨⟨trivial, trivial, trivial⟩, noL_lws r⟩
theorem lws_eqv : ∀ l : List (Int × Str), PyData.eqv (.list (l.map lwD)) (.list (l.map lwD)) = true
  | [] => rfl
  | x :: l => by
    have ih := lws_eqv l
    have ih : PyData.eqvAll (l.map lwD) (l.map lwD) = true := ih
    show PyData.eqvAll (lwD x :: l.map lwD) (lwD x :: l.map lwD) = true
    simp [PyData.eqvAll, PyData.eqv, lwD]
    exact ih
theorem lws_shaped {l : List (Int × Str)} (h : ∀ x ∈ l, PyData.strOk x.2 = true) : SeqAt.shaped (.list (l.map lwD)) = true := by
  have h1 : ∀ l : List (Int × Str), (∀ x ∈ l, PyData.strOk x.2 = true) → PyData.canLayAll0 (l.map lwD) = true := by
    intro l
    induction l with
    | nil => intro _; rfl
    | cons r l ih =>
      intro h
      show (PyData.canLay0 (lwD r) && PyData.canLayAll0 (l.map lwD)) = true
      rw [ih fun z hz => h z (List.mem_cons_of_mem _ hz)]
      simp [lwD, PyData.canLay0, PyData.canLayAll0, h r List.mem_cons_self]
  have h2 : PyData.depthAll (l.map lwD) ≤ 1 := depthAll_map fun r _ => by
    show max 0 (max 0 0) + 1 ≤ 1
    decide
  show (PyData.canLayAll0 (l.map lwD) && decide (PyData.depthAll (l.map lwD) + 1 ≤ 64)) = true
  rw [h1 l h, decide_eq_true (by omega)]
  rfl
/-- the law's two dicts -/
def tkV (t : Tm) : Key × V := (.inr t.1, .str t.2.1)
def ckV (c : Col) : Key × V := (.inr c.1, .int c.2.2.2)
theorem merge_nd41 : ∀ (kvs acc : List (Key × V)), ((acc ++ kvs).map fun p => p.1).Nodup → mergeK acc kvs = acc ++ kvs
  | [], acc, _ => by rw [List.append_nil]; rfl
  | x :: kvs, acc, h => by
    have h2 : acc ++ x :: kvs = (acc ++ [x]) ++ kvs := by rw [List.append_assoc]; rfl
    show mergeK (putK acc x.1 x.2) kvs = _
    rw [putK_new fun p hp e => ?_, merge_nd41 kvs (acc ++ [x]) (by rw [← h2]; exact h), h2]
    rw [List.map_append] at h
    exact (List.nodup_append.mp h).2.2 p.1 (List.mem_map.mpr ⟨p, hp, rfl⟩) x.1 (List.mem_map.mpr ⟨x, List.mem_cons_self, rfl⟩) e
theorem val_map41 {α : Type} {g : α → Key × V} {z : Str} : ∀ {l : List α} {a : α}, (l.map fun x => (g x).1).Nodup → a ∈ l → (g a).1 = .inr z → valV (l.map g) (.inr z) = some (g a).2
  | [], a, _, h, _ => (List.not_mem_nil h).elim
  | x :: l, a, nd, h, e => by
    rw [List.map_cons] at nd
    obtain ⟨n1, n2⟩ := List.nodup_cons.mp nd
    unfold valV
    rw [List.map_cons, List.find?_cons]
    rcases List.mem_cons.mp h with q | q
    · rw [← q, e, decide_eq_true rfl]; rfl
    · have ne : (g x).1 ≠ .inr z := fun w => n1 (List.mem_map.mpr ⟨a, q, by rw [e, w]⟩)
      rw [decide_eq_false ne]
      exact val_map41 n2 q e
theorem paired_imp41 {α β : Type} {F G : α → β → Prop} (h : ∀ a b, F a b → G a b) : ∀ {l : List α} {m : List β}, Paired F l m → Paired G l m
  | _, _, .nil => .nil
  | _, _, .cons a r => .cons (h _ _ a) (paired_imp41 h r)
abbrev s__law_is_work : Stmt := topS 33
def n__law_is_work : List Str := ["_law_palette_here", "_law_pots_here", "_law_teams", "_law_found", "_law_wanted", "_law_left", "_law_taken", "_law_team_here", "_law_colour", "_law_first", "_law_last", "_law_hour", "_law_colours", "_law_gathers", "_law_pot_here", "_law_number", "_law_at", "_law_begin", "_law_end", "_law_row", "_law_many"]
theorem sc__law_is_work : FnScope n__law_is_work ["_law_palette_here", "_law_pots_here", "_law_teams", "_law_found"] (defScope s__law_is_work) := ⟨rfl, rfl, rfl, by decide +kernel, rfl, by decide +kernel, by decide +kernel⟩
def spIsW (K : PySem.W.Frag) : Sp := fun vs H Q _ => ∃ (v : V) (PP A R : Addr) (xs us : List V) (cs : List Col) (ws : List Wsh) (ps : List (List Trn)) (tms : List Tm) (n : Nat) (zs : List Str) (rs : List Wk), vs = [v, .ref PP, .ref A, .ref R] ∧ Dp K H v (palD cs ws) ∧ PalE cs ws ∧ Dp K H (.ref PP) (potsD ps) ∧ PotsOk cs ps ∧ SqL K H A xs ∧ DpAll K H xs (tms.map tmD) ∧ tms.length ≤ 20 ∧ (∀ t ∈ tms, TmOk t ∧ ∃ c ∈ cs, c.1 = t.2.1) ∧ (tms.map fun t => t.1).Nodup ∧ (cs.map fun c => c.1).Nodup ∧ SqL K H R us ∧ DpAll K H us ((rs.mergeSort (PySem.W.dataLe false wkD)).map wkD) ∧ AllR cs ps tms n zs rs ∧ rs.length ≤ 24000 ∧ ∀ H', Same H H' → Q (.bl true) H'
set_option maxHeartbeats 8000000 in
theorem ok_isw {f : Addr} {fd : FuncData} {k : Nat} (F : Fun K "_law_is_work" "_law_is_work" s__law_is_work f fd) (T : Txt mg) (LD : Dct mg) (c__law_is_number : Cl P w K mg base (k + 1) "_law_is_number" (spNum K)) : FnOk P w K mg base CX0 (k + 2) f fd ["_law_palette_here", "_law_pots_here", "_law_teams", "_law_found"] (spIsW K) := by
  refine F.ok sc__law_is_work (fun vs H Q E h => ?_) (fun cdv A outer s H vs Q E hr h => ?_)
  · obtain ⟨v, PP, B, R, xs, us, cs, ws, ps, tms, n, zs, rs, rfl, _⟩ := h
    rfl
  · obtain ⟨v, PP, B, R, xs, us, cs, ws, ps, tms, n, zs, rs, rfl, dv, pal, dps, pok, hs, da, lt, tok, und, unc, hR, dR, AR, lrs, q⟩ := h
    have nd := sc__law_is_work.nd
    have hu64 := hr.units
    have hu := hu_of hr
    have hu70 : (A.deeper (envOfC (Str.ofString "_law_is_work") (defScope s__law_is_work) s.heap.objs.size f cdv)).units + 70 < cLine := by have := hr.un; omega
    refine ⟨_, (pss_cons (ps_if ((pw_or (pt_not (pt_val (pe_callB (kc_isi (K := K)) (by rfl) T.isinstance (by decide +kernel) (pa_cons (pv 3) (pa_cons (pe_bltn (v := .ty "list") (by rfl) T.list (by decide +kernel) rfl) pa_nil))))) (pw_or1 (pt_not (pt_val (pe_callB (kc_all (K := K)) (by rfl) T.all (by decide +kernel) (pa_cons (pe_lc (own := [("_law_row", 19)]) rfl nd (ki_list (K := K) (pv 3)) (blkOk_by (N := n__law_is_work) (sc := defScope s__law_is_work) (by decide +kernel)) (fun _ _ _ _ _ => (pg_name (i := 19) nd rfl (.inl rfl))) (fun _ _ _ _ _ => pts_nil) (fun _ _ _ _ _ => (pe_and (pe_callB (kc_isi (K := K)) (by rfl) T.isinstance (by decide +kernel) (pa_cons (pv 19) (pa_cons (pe_bltn (v := .ty "tuple") (by rfl) T.tuple (by decide +kernel) rfl) pa_nil))) (pe_one (pe_cmpR op_eq (pe_callB (kc_len (K := K)) (by rfl) T.len PySem.boot_len (pa_cons (pv 19) pa_nil)) pe_int (nomark _)))))) pa_nil))))))).pt
          pss_never
          pss_nil)
      (pss_cons (ps_par3 (i := 4) (j := 5) (l := 6) rfl nd rfl rfl rfl (by decide) (by decide) (by decide) rfl rfl rfl (pa_cons (pe_lst pa_nil) (pa_cons pe_dnewT (pa_cons pe_dnewT pa_nil))) rfl)
      (pss_cons (ps_for PassesOwn.never rfl (ki_list (K := K) (pv 2)) (kg_tup (K := K) (n := 4) (pgs_cons (pg_name (i := 7) nd rfl (.inr rfl)) (pgs_cons (pg_name (i := 8) nd rfl (.inl rfl)) (pgs_cons (pg_name (i := 9) nd rfl (.inl rfl)) (pgs_cons (pg_name (i := 10) nd rfl (.inl rfl)) pgs_nil)))))
          (pss_one (ps_expr (pe_bm PySem.F.plainAttrs_list PySem.F.slot_list_extend PySem.F.type_list_extend mt_extend (pv 4) (pa_cons (pe_lc (own := [("_law_hour", 11)]) rfl nd (pi_range2 (by rfl) T.range (pa_cons (pv 9) (pa_cons (pv 10) pa_nil))) (blkOk_by (N := n__law_is_work) (sc := defScope s__law_is_work) (by decide +kernel)) (fun _ _ _ _ _ => (pg_name (i := 11) nd rfl (.inl rfl))) (fun _ _ _ _ _ => pts_nil) (fun _ _ _ _ _ => (pe_tup (pa_cons (pv 11) (pa_cons (pv 7) pa_nil))))) pa_nil)))))
      (pss_cons (ps_if (pt_cmpR (ko_ne (K := K) hu64) (pe_lc (own := [("_law_row", 19)]) rfl nd (ki_list (K := K) (pv 3)) (blkOk_by (N := n__law_is_work) (sc := defScope s__law_is_work) (by decide +kernel)) (fun _ _ _ _ _ => (pg_name (i := 19) nd rfl (.inl rfl))) (fun _ _ _ _ _ => pts_nil) (fun _ _ _ _ _ => (pe_slice (kl_tup (K := K)) (pv 19) po_none (po_some pe_int)))) (pe_callB (kc_sortedE (K := K) (enc := lwD) hu70 lw_al lw_tp lw_dep) (by rfl) T.sorted (by decide +kernel) (pa_cons (pv 4) pa_nil)) (nomark _))
          pss_never
          pss_nil)
      (pss_cons (ps_par (i := 12) (j := 13) rfl nd rfl rfl (by decide) rfl rfl (pa_cons (pe_callTy (kc_dictP (K := K)) (by rfl) LD (by decide +kernel) (pa_cons (pe_lc (own := [("_law_row", 19)]) rfl nd (ki_list (K := K) (pv 2)) (blkOk_by (N := n__law_is_work) (sc := defScope s__law_is_work) (by decide +kernel)) (fun _ _ _ _ _ => (pg_name (i := 19) nd rfl (.inl rfl))) (fun _ _ _ _ _ => pts_nil) (fun _ _ _ _ _ => (pe_slice (kl_tup (K := K)) (pv 19) po_none (po_some pe_int)))) pa_nil)) (pa_cons (pe_callTy (kc_dictP (K := K)) (by rfl) LD (by decide +kernel) (pa_cons (pe_lc (own := [("_law_row", 19)]) rfl nd (ki_tup (K := K) (pe_ix (kx_tup (K := K)) (pv 0) pe_int (fun _ _ => rfl))) (blkOk_by (N := n__law_is_work) (sc := defScope s__law_is_work) (by decide +kernel)) (fun _ _ _ _ _ => (pg_name (i := 19) nd rfl (.inl rfl))) (fun _ _ _ _ _ => pts_nil) (fun _ _ _ _ _ => (pe_tup (pa_cons (pe_ix (kx_tup (K := K)) (pv 19) pe_int (fun _ _ => rfl)) (pa_cons (pe_ix (kx_tup (K := K)) (pv 19) pe_int (fun _ _ => rfl)) pa_nil))))) pa_nil)) pa_nil)) rfl)
      (pss_cons (ps_for PassesOwn.never rfl (ki_list (K := K) (pv 3)) (kg_tup (K := K) (n := 4) (pgs_cons (pg_name (i := 11) nd rfl (.inl rfl)) (pgs_cons (pg_name (i := 7) nd rfl (.inr rfl)) (pgs_cons (pg_name (i := 14) nd rfl (.inl rfl)) (pgs_cons (pg_name (i := 15) nd rfl (.inl rfl)) pgs_nil)))))
          (pss_cons (ps_if ((pw_or (pt_not (pt_val (pe_cl c__law_is_number hr (by omega) (by rfl) (pa_cons (pv 14) (pa_cons pe_int (pa_cons (pe_op op_sub (pe_callB (kc_len (K := K)) (by rfl) T.len PySem.boot_len (pa_cons (pv 1) pa_nil)) pe_int) pa_nil)))))) (pw_or1 (pt_not (pt_val (pe_cl c__law_is_number hr (by omega) (by rfl) (pa_cons (pv 15) (pa_cons pe_int (pa_cons (pe_op op_sub (pe_callB (kc_len (K := K)) (by rfl) T.len PySem.boot_len (pa_cons (pe_ix (kx_list (K := K)) (pv 1) (pv 14) (fun _ _ => rfl)) pa_nil)) pe_int) pa_nil))))))))).pt
              pss_never
              pss_nil)
          (pss_cons (ps_asg (pe_ix (kx_list (K := K)) (pe_ix (kx_list (K := K)) (pv 1) (pv 14) (fun _ _ => rfl)) (pv 15) (fun _ _ => rfl)) (kg_tup (K := K) (n := 4) (pgs_cons (pg_name (i := 16) nd rfl (.inl rfl)) (pgs_cons (pg_name (i := 8) nd rfl (.inl rfl)) (pgs_cons (pg_name (i := 17) nd rfl (.inl rfl)) (pgs_cons (pg_name (i := 18) nd rfl (.inl rfl)) pgs_nil))))))
          (pss_cons (ps_dput hu (pv 5) (pe_tup (pa_cons (pv 14) (pa_cons (pv 15) pa_nil))) (pe_op op_sub (pe_dget2 hu (pv 5) (pe_tup (pa_cons (pv 14) (pa_cons (pv 15) pa_nil))) (pe_dget hu (pv 13) (pv 8) (fun _ _ => rfl)) ⟨rfl, rfl, rfl, rfl⟩) pe_int) rfl)
          (pss_cons (ps_if ((pw_or (pt_cmpR op_ne (pv 8) (pe_dget hu (pv 12) (pv 7) (fun _ _ => rfl)) (nomark _)) (pw_or (pt_not (pt_chain op_le op_lt (pv 17) (pv 11) (pv 18))) (pw_or1 (pt_cmp (pc_din hu (pe_tup (pa_cons (pv 11) (pa_cons (pv 14) (pa_cons (pv 15) pa_nil)))) (pv 6))))))).pt
              pss_never
              pss_nil)
          (pss_one (ps_dput hu (pv 6) (pe_tup (pa_cons (pv 11) (pa_cons (pv 14) (pa_cons (pv 15) pa_nil)))) pe_bl rfl)))))))
      (pss_one (ps_ret (pe_callB (kc_all (K := K)) (by rfl) T.all (by decide +kernel) (pa_cons (pe_lock (pe_lc (own := [("_law_many", 20)]) rfl nd (pi_valuesT (pv 5)) (blkOk_by (N := n__law_is_work) (sc := defScope s__law_is_work) (by decide +kernel)) (fun _ _ _ _ _ => (pg_name (i := 20) nd rfl (.inl rfl))) (fun _ _ _ _ _ => pts_nil) (fun _ _ _ _ _ => (pe_cmpR op_ge (pv 20) pe_int (nomark _))))) pa_nil)))))))))), ?_⟩
    have lxs : xs.length = tms.length := dpAll_map_len da
    have lms : (rs.mergeSort (PySem.W.dataLe false wkD)).length = rs.length := List.length_mergeSort _
    obtain ⟨ms, ems⟩ : ∃ ms, ms = rs.mergeSort (PySem.W.dataLe false wkD) := ⟨_, rfl⟩
    have pms : ms.Perm rs := by rw [ems]; exact List.mergeSort_perm rs _
    have ek2 : ms.map k2 = (wantedF tms).mergeSort (PySem.W.dataLe false lwD) := by rw [ems]; exact k2_sorted (wanted_perm AR und fun t ht => (tok t ht).1.a.1)
    rw [← ems] at dR
    have lus : us.length = ms.length := dpAll_map_len dR
    have dF : Dp K H (.ref R) (.list (ms.map wkD)) := .lst hR dR
    have lm : ms.length ≤ 24000 := by rw [pms.length_eq]; exact lrs
    refine ⟨_, rfl, _, .ty _, _, _, isListD _, rfl, .ty _, tyx_dp dF, kit_list dF, _, rfl, iteF ⟨_, rfl, R, rfl, ⟨_, hR⟩, fun D nD => ?_⟩⟩
    refine lc_it (walk_list (xs := us)) (PvL H D fun i => ((us.map fun _ => true).take i).map V.bl) (pv_start nD rfl) (fun i H2 _ p => p.1.seq hR) ?_ ?_
    · rintro i x H2 H3 hi pv ⟨rfl, gx⟩
      obtain ⟨r, gr, dr⟩ := dpAll_map_at (dpAll_same pv.1 dR) gx
      obtain ⟨t, rfl, hT⟩ := wk_dp dr
      refine ⟨rfl, tYes_at ?_⟩
      rw [if_pos rfl]
      have dR' := dpAll_same pv.1 dR
      refine ⟨_, rfl, _, .ty _, _, _, isTupD _, rfl, .ty _, tyx_dp dr, kit_tup dr, true, rfl, ?_⟩
      rw [if_pos rfl]
      refine ⟨_, rfl, _, _, rfl, .inr ⟨_, hT, rfl⟩, rfl, ?_⟩
      exact pv_put nD pv (Same.refl _) (take_map V.bl (by rw [List.getElem?_map, gx]; rfl)) (by rw [List.length_map, List.length_take, List.length_map, sizeLine_eq]; omega)
    · intro H2 pv
      obtain ⟨s2, hD⟩ := pv_end pv (take_all (by rw [List.length_map]; exact Nat.le_refl _))
      clear pv
      refine ⟨D, _, rfl, SqL.of hD, _, rfl, ?_⟩
      rw [show ((us.map fun _ => true).all id) = true by rw [List.all_map]; exact List.all_eq_true.mpr fun _ _ => rfl]
      refine iteF ?_
      clear hD nD dF
      have hR := s2.seq hR
      have dR := dpAll_same s2 dR
      have hs := s2.seq hs
      have da := dpAll_same s2 da
      have dv := dp_same s2 dv
      have dps := dp_same s2 dps
      refine ⟨Nat.zero_le _, fun W nW p5 n5 p6 n6 => ?_⟩
      refine ⟨_, _, _, rfl, ?_⟩
      have hW : upd (upd (upd H2 W (.lst [])) p5 (.dT [])) p6 (.dT []) W = some (.lst []) := by
        have a1 : W ≠ p5 := fun e => by rw [← e, upd_same] at n5; cases n5
        have a2 : W ≠ p6 := fun e => by rw [← e, upd_ne a1, upd_same] at n6; cases n6
        rw [upd_ne a2, upd_ne a1, upd_same]
      have h5 : upd (upd (upd H2 W (.lst [])) p5 (.dT [])) p6 (.dT []) p5 = some (.dT []) := by
        have a1 : p5 ≠ p6 := fun e => by rw [← e, upd_same] at n6; cases n6
        rw [upd_ne a1, upd_same]
      have h6 : upd (upd (upd H2 W (.lst [])) p5 (.dT [])) p6 (.dT []) p6 = some (.dT []) := upd_same
      have s3 := ((same_upd (o := .lst []) nW).trans (same_upd (o := .dT []) n5)).trans (same_upd (o := .dT []) n6)
      have nW5 := (same_upd (o := .lst []) nW).free n5
      have nW6 := ((same_upd (o := .lst []) nW).trans (same_upd (o := .dT []) n5)).free n6
      have n56 : p5 ≠ p6 := fun e => by rw [← e, upd_same] at n6; cases n6
      generalize upd (upd (upd H2 W (.lst [])) p5 (.dT [])) p6 (.dT []) = H3 at hW h5 h6 s3 ⊢
      clear n5 n6
      refine ⟨_, rfl, B, rfl, ⟨_, s3.seq hs⟩, ?_⟩
      refine for_it (walk_list (xs := xs)) (fun i σ Hx => ∃ v7 v8 v9 va vb wu, σ = [some v, some (.ref PP), some (.ref B), some (.ref R), some (.ref W), some (.ref p5), some (.ref p6), v7, v8, v9, va, vb, none, none, none, none, none, none, none, none, none] ∧ Same H2 Hx ∧ Hx p5 = some (.dT []) ∧ Hx p6 = some (.dT []) ∧ Hx W = some (.lst wu) ∧ DpAll K (off Hx [W]) wu ((wantedF (tms.take i)).map lwD) ∧ wu.length ≤ 60 * i) ⟨_, _, _, _, _, _, rfl, s3, h5, h6, hW, .nil, Nat.zero_le _⟩ (fun i σ Hx _ h => by obtain ⟨_, _, _, _, _, _, _, h, _⟩ := h; exact h.seq hs) ?_ ?_
      · clear h5 h6 hW s3
        rintro i x σ H5 H6 hi ⟨v7, v8, v9, va, vb, wu, rfl, s5, h5, h6, hW, dW, lw⟩ ⟨rfl, gx⟩
        obtain ⟨t, gt, dt⟩ := dpAll_map_at (dpAll_same s5 da) gx
        obtain ⟨a, rfl, ha⟩ := tm_dp dt
        refine ⟨a, _, rfl, ha, rfl, _, _, rfl, _, _, rfl, _, _, rfl, _, _, rfl, rfl, ?_⟩
        obtain ⟨tn, ⟨a1, a2⟩, ⟨b1, b2⟩⟩ : True ∧ (0 ≤ t.2.2.1 ∧ t.2.2.1 ≤ 60) ∧ (0 ≤ t.2.2.2 ∧ t.2.2.2 ≤ 60) := ⟨trivial, (tok t (List.mem_of_getElem? gt)).1.a, (tok t (List.mem_of_getElem? gt)).1.b⟩
        refine ⟨_, rfl, .inl ⟨rfl, _, SqL.of hW⟩, _, rfl, _, rfl, _, _, rfl, ⟨by omega, by omega, by omega, by omega⟩, fun C nC => ?_⟩
        have WC : W ≠ C := ne_of_none hW nC
        refine lc_it walk_range (fun j Hx => Same H6 Hx ∧ ∃ cu, Hx C = some (.lst cu) ∧ DpAll K (off Hx [C]) cu (((List.range j).map fun i => (t.2.2.1 + ((i : Nat) : Int), t.1)).map lwD) ∧ cu.length = j) ⟨same_upd nC, [], upd_same, .nil, rfl⟩ (fun _ _ _ _ => trivial) ?_ ?_
        · rintro j y H7 H8 hj ⟨s7, cu, hC, dC, lc⟩ ⟨rfl, rfl⟩
          refine ⟨rfl, tYes_at ?_⟩
          rw [if_pos rfl]
          refine ⟨_, rfl, _, rfl, (by show 2 ≤ sizeLine; decide), fun u nu => ?_⟩
          have lvC : Live [C] H8 := fun x hx e => by rw [List.mem_singleton.mp hx, hC] at e; cases e
          have gu := off_new (o := .tup [.int (t.2.2.1 + ((j : Nat) : Int)), .str t.1]) lvC nu
          have dC := dpAll_same (sm_put (S := [C]) (o := .tup [.int (t.2.2.1 + ((j : Nat) : Int)), .str t.1]) nu) dC
          have hC := same_upd (o := .tup [.int (t.2.2.1 + ((j : Nat) : Int)), .str t.1]) nu _ _ hC
          have s7 := s7.trans (same_upd (o := .tup [.int (t.2.2.1 + ((j : Nat) : Int)), .str t.1]) nu)
          refine ⟨cu, hC, by rw [sizeLine_eq]; omega, same_put s7 nC, _, upd_same, ?_, by rw [List.length_append, lc]; rfl⟩
          rw [List.range_succ, List.map_append, List.map_append]
          exact dpAll_same (sm_wr (by simp)) (dpAll_app' dC (.cons (.tup (.inl (.inl gu)) (.cons (.int _) (.cons (.str _) .nil))) .nil))
        · rintro H7 ⟨s7, cu, hC, dC, lc⟩
          have hW7 := s7 _ _ hW
          have lcs : cu.length ≤ 60 := by rw [lc]; omega
          have hi20 : i < 20 := by omega
          refine ⟨W, C, wu, cu, rfl, rfl, hW7, hC, by rw [sizeLine_eq]; omega, ?_⟩
          have p5W : p5 ≠ W := fun e => by rw [e, hW] at h5; cases h5
          have p6W : p6 ≠ W := fun e => by rw [e, hW] at h6; cases h6
          refine ⟨_, _, _, _, _, wu ++ cu, rfl, same_put (s5.trans s7) nW, by rw [upd_ne p5W]; exact s7 _ _ h5, by rw [upd_ne p6W]; exact s7 _ _ h6, upd_same, ?_, by rw [List.length_append]; omega⟩
          have ew : wantedF (tms.take (i + 1)) = wantedF (tms.take i) ++ (List.range (t.2.2.2 - t.2.2.1).toNat).map fun i => (t.2.2.1 + ((i : Nat) : Int), t.1) := by
            unfold wantedF
            rw [List.take_add_one, gt, List.flatMap_append]; simp
          rw [ew, List.map_append]
          have dW7 := dpAll_same (sm_of (S := [W]) s7) dW
          refine dpAll_same (sm_wr (by simp)) (dpAll_app' dW7 ?_)
          refine dpAll_go (go_offL2 fun x hx => ?_) (noL_lws _) (dpAll_same off_sub dC)
          rw [List.mem_singleton.mp hx]; exact ⟨_, hW7⟩
      · rintro σ Hx ⟨v7, v8, v9, va, vb, wu, rfl, s5, h5, h6, hW, dW, lw⟩
        rw [lxs, List.take_length] at dW
        have h25 : Same H2 Hx := s5
        have hRx := s5.seq hR
        have dRx := dpAll_same s5 dR
        refine ⟨_, rfl, R, rfl, ⟨_, hRx⟩, fun C nC => ?_⟩
        refine lc_it (walk_list (xs := us)) (fun j Hy => Same Hx Hy ∧ ∃ cu, Hy C = some (.lst cu) ∧ DpAll K (off Hy [C]) cu (((ms.take j).map k2).map lwD) ∧ cu.length = j) ⟨same_upd nC, [], upd_same, .nil, rfl⟩ (fun j Hy _ h => h.1.seq hRx) ?_ ?_
        · rintro j y H7 H8 hj ⟨s7, cu, hC, dC, lc⟩ ⟨rfl, gy⟩
          obtain ⟨r, gr, dr⟩ := dpAll_map_at (dpAll_same s7 dRx) gy
          obtain ⟨t, rfl, hT⟩ := wk_dp dr
          refine ⟨rfl, tYes_at ?_⟩
          rw [if_pos rfl]
          refine ⟨_, rfl, _, rfl, t, _, rfl, hT, fun h => absurd h.2 (show ¬ (2 : Nat) = 4 by decide), fun _ u nu => ?_⟩
          have ecut : cutV [V.int r.1, .str r.2.1, .int r.2.2.1, .int r.2.2.2] none (some 2) = [.int r.1, .str r.2.1] := rfl
          rw [ecut]
          have lvC : Live [C] H8 := fun x hx e => by rw [List.mem_singleton.mp hx, hC] at e; cases e
          have gu := off_new (o := .tup [.int r.1, .str r.2.1]) lvC nu
          have dC := dpAll_same (sm_put (S := [C]) (o := .tup [.int r.1, .str r.2.1]) nu) dC
          have hC := same_upd (o := .tup [.int r.1, .str r.2.1]) nu _ _ hC
          have s7 := s7.trans (same_upd (o := .tup [.int r.1, .str r.2.1]) nu)
          refine ⟨cu, hC, by rw [sizeLine_eq]; omega, same_put s7 nC, _, upd_same, ?_, by rw [List.length_append, lc]; rfl⟩
          rw [List.take_add_one, gr, List.map_append, List.map_append]
          exact dpAll_same (sm_wr (by simp)) (dpAll_app' dC (.cons (.tup (.inl (.inl gu)) (.cons (.int _) (.cons (.str _) .nil))) .nil))
        rintro H7 ⟨s7, cu, hC, dC, lc⟩
        rw [lus, List.take_length] at dC
        have dC := dpAll_same off_sub dC
        refine ⟨_, rfl, W, wu, wantedF tms, rfl, SqL.of (s7 _ _ hW), dpAll_same s7 (dpAll_same off_sub dW), fun su Sd dS nSd => ?_⟩
        have sS := same_upd (o := .lst su) nSd
        have okS : ∀ x ∈ wantedF tms, PyData.strOk x.2 = true := fun x hx => by
          obtain ⟨t, ht, hx⟩ := List.mem_flatMap.mp hx
          obtain ⟨_, _, rfl⟩ := List.mem_map.mp hx
          exact strOk_len fun y hy => by have := (tok t ht).1.n.ascii y hy; omega
        refine ⟨.list ((ms.map k2).map lwD), .list (((wantedF tms).mergeSort (PySem.W.dataLe false lwD)).map lwD), .lst (SqL.of (sS _ _ hC)) (dpAll_same sS dC), .lst (SqL.of upd_same) (dpAll_same sS dS), lws_shaped (fun x hx => okS x (by rw [ek2] at hx; exact (List.mergeSort_perm _ _).mem_iff.mp hx)), lws_shaped (fun x hx => okS x ((List.mergeSort_perm _ _).mem_iff.mp hx)), _, rfl, ?_⟩
        rw [ek2, lws_eqv]
        refine iteF ?_
        have s8 := s7.trans sS
        have h5 := s8 _ _ h5
        have h6 := s8 _ _ h6
        have s8 := h25.trans s8
        generalize upd H7 Sd (.lst su) = H8 at h5 h6 s8 ⊢
        clear sS s7 dS nSd hC dC hW dW hRx dRx nC h25 s5 lc lw okS
        refine ⟨_, rfl, B, rfl, ⟨_, s8.seq hs⟩, fun C nC => ?_⟩
        refine lc_it (walk_list (xs := xs)) (fun j Hy => Same H8 Hy ∧ ∃ qs : List Addr, Hy C = some (.lst (qs.map V.ref)) ∧ qs.length = j ∧ Paired (fun p kv => SqT K (off Hy [C]) p [kV kv.1, kv.2]) qs ((tms.take j).map tkV)) ⟨same_upd nC, [], upd_same, rfl, .nil⟩ (fun j Hy _ h => (s8.trans h.1).seq hs) ?_ ?_
        · rintro j y H9 H10 hj ⟨s9, qs, hC, lq, pq⟩ ⟨rfl, gy⟩
          obtain ⟨t, gt, dt⟩ := dpAll_map_at (dpAll_same (s8.trans s9) da) gy
          obtain ⟨a, rfl, ha⟩ := tm_dp dt
          refine ⟨rfl, tYes_at ?_⟩
          rw [if_pos rfl]
          refine ⟨_, rfl, _, rfl, a, _, rfl, ha, fun h => absurd h.2 (show ¬ (2 : Nat) = 4 by decide), fun _ u nu => ?_⟩
          have ecut : cutV [V.str t.1, .str t.2.1, .int t.2.2.1, .int t.2.2.2] none (some 2) = [.str t.1, .str t.2.1] := rfl
          rw [ecut]
          have uC : u ≠ C := fun e => by rw [e, hC] at nu; cases nu
          have su := same_upd (o := .tup [.str t.1, .str t.2.1]) nu
          refine ⟨qs.map V.ref, su _ _ hC, by rw [List.length_map, sizeLine_eq]; omega, same_put (s9.trans su) nC, qs ++ [u], by rw [upd_same, List.map_append]; rfl, by rw [List.length_append, lq]; rfl, ?_⟩
          rw [List.take_add_one, gt, List.map_append]
          have so : Same (off H10 [C]) (off (upd (upd H10 u (.tup [.str t.1, .str t.2.1])) C (.lst (qs.map V.ref ++ [.ref u]))) [C]) := (sm_of su).trans (sm_wr List.mem_cons_self)
          refine Paired.snoc (paired_imp41 (fun _ _ h => same_tup so h) pq) (.inl (.inl ?_))
          rw [off_out (by simp [uC]), upd_ne uC]
          exact upd_same
        rintro H9 ⟨s9, qs, hC, lq, pq⟩
        rw [lxs, List.take_length] at pq
        refine ⟨C, qs, _, rfl, SqL.of hC, paired_imp41 (fun _ _ h => same_tup off_sub h) pq, fun G1 nG1 => ?_⟩
        rw [merge_nd41 (tms.map tkV) [] (by
          rw [List.nil_append, List.map_map]
          have := List.Pairwise.map (f := fun z : Str => (Sum.inr z : Key)) (R := (· ≠ ·)) (S := (· ≠ ·)) (fun a b n e => n (Sum.inr.inj e)) und
          rw [List.map_map] at this
          exact this), List.nil_append]
        have g1 : upd H9 G1 (.dK (tms.map tkV)) G1 = some (.dK (tms.map tkV)) := upd_same
        have s10 := s9.trans (same_upd (o := .dK (tms.map tkV)) nG1)
        have h5 := s10 _ _ h5
        have h6 := s10 _ _ h6
        have s8 := s8.trans s10
        generalize upd H9 G1 (.dK (tms.map tkV)) = H10 at g1 h5 h6 s8 ⊢
        clear s10 s9 hC pq nC nG1
        obtain ⟨p, ca, wa, cx, cy, ev, hp, hc, hx, hw, hy⟩ := pal_dp dv
        subst ev
        have lcx : cx.length = cs.length := dpAll_map_len hx
        have lc6 := pal.le
        refine ⟨_, rfl, p, _, 0, .ref ca, rfl, rfl, same_tup s8 hp, rfl, ca, rfl, ⟨_, same_tup s8 hc⟩, fun C nC => ?_⟩
        refine lc_it (walk_tup (xs := cx)) (fun j Hy => Same H10 Hy ∧ ∃ qs : List Addr, Hy C = some (.lst (qs.map V.ref)) ∧ qs.length = j ∧ Paired (fun p kv => SqT K (off Hy [C]) p [kV kv.1, kv.2]) qs ((cs.take j).map ckV)) ⟨same_upd nC, [], upd_same, rfl, .nil⟩ (fun j Hy _ h => same_tup (s8.trans h.1) hc) ?_ ?_
        · rintro j y H11 H12 hj ⟨s9, qs, hC, lq, pq⟩ ⟨rfl, gy⟩
          obtain ⟨c, gc, dc⟩ := dpAll_map_at (dpAll_same (s8.trans s9) hx) gy
          obtain ⟨a, rfl, ha⟩ := col_dp dc
          refine ⟨rfl, tYes_at ?_⟩
          rw [if_pos rfl]
          refine ⟨_, rfl, a, _, 0, .str c.1, rfl, rfl, ha, rfl, _, rfl, a, _, 3, .int c.2.2.2, rfl, rfl, ha, rfl, (by show 2 ≤ sizeLine; decide), fun u nu => ?_⟩
          have uC : u ≠ C := fun e => by rw [e, hC] at nu; cases nu
          have su := same_upd (o := .tup [.str c.1, .int c.2.2.2]) nu
          refine ⟨qs.map V.ref, su _ _ hC, by rw [List.length_map, sizeLine_eq]; omega, same_put (s9.trans su) nC, qs ++ [u], by rw [upd_same, List.map_append]; rfl, by rw [List.length_append, lq]; rfl, ?_⟩
          rw [List.take_add_one, gc, List.map_append]
          have so : Same (off H12 [C]) (off (upd (upd H12 u (.tup [.str c.1, .int c.2.2.2])) C (.lst (qs.map V.ref ++ [.ref u]))) [C]) := (sm_of su).trans (sm_wr List.mem_cons_self)
          refine Paired.snoc (paired_imp41 (fun _ _ h => same_tup so h) pq) (.inl (.inl ?_))
          rw [off_out (by simp [uC]), upd_ne uC]
          exact upd_same
        rintro H11 ⟨s9, qs, hC, lq, pq⟩
        rw [lcx, List.take_length] at pq
        refine ⟨C, qs, _, rfl, SqL.of hC, paired_imp41 (fun _ _ h => same_tup off_sub h) pq, fun G2 nG2 => ?_⟩
        rw [merge_nd41 (cs.map ckV) [] (by
          rw [List.nil_append, List.map_map]
          have := List.Pairwise.map (f := fun z : Str => (Sum.inr z : Key)) (R := (· ≠ ·)) (S := (· ≠ ·)) (fun a b n e => n (Sum.inr.inj e)) unc
          rw [List.map_map] at this
          exact this), List.nil_append]
        have g2 : upd H11 G2 (.dK (cs.map ckV)) G2 = some (.dK (cs.map ckV)) := upd_same
        have s10 := s9.trans (same_upd (o := .dK (cs.map ckV)) nG2)
        have h5 := s10 _ _ h5
        have h6 := s10 _ _ h6
        have g1 := s10 _ _ g1
        have s8 := s8.trans s10
        generalize upd H11 G2 (.dK (cs.map ckV)) = H12 at g1 g2 h5 h6 s8 ⊢
        clear s10 s9 hC pq nC nG2
        refine ⟨_, _, rfl, ?_⟩
        refine ⟨_, rfl, R, rfl, ⟨_, s8.seq hR⟩, ?_⟩
        have kn : (ms.map k3).Nodup := (pms.map k3).nodup_iff.mpr (k3_nodup pal lt AR)
        refine for_it (walk_list (xs := us)) (fun i σ Hx => ∃ v7 v8 v9 va vb ve vf vg vh vi, σ = [some (.ref p), some (.ref PP), some (.ref B), some (.ref R), some (.ref W), some (.ref p5), some (.ref p6), v7, v8, v9, va, vb, some (.ref G1), some (.ref G2), ve, vf, vg, vh, vi, none, none] ∧ Same H2 Hx ∧ Hx G1 = some (.dK (tms.map tkV)) ∧ Hx G2 = some (.dK (cs.map ckV)) ∧ Hx p5 = some (.dT (leftF (gaK cs ps) (ms.take i))) ∧ Hx p6 = some (.dT (takF (ms.take i)))) ⟨_, _, _, _, _, _, _, _, _, _, rfl, s8, g1, g2, h5, h6⟩ (fun i σ Hx _ h => by obtain ⟨_, _, _, _, _, _, _, _, _, _, _, h, _⟩ := h; exact h.seq hR) ?_ ?_
        · clear h5 h6 g1 g2 s8
          rintro i x σ H13 H14 hi ⟨v7, v8, v9, va, vb, ve, vf, vg, vh, vi, rfl, s9, g1, g2, h5, h6⟩ ⟨rfl, gx⟩
          obtain ⟨r, gr, dr⟩ := dpAll_map_at (dpAll_same s9 dR) gx
          obtain ⟨t0, rfl, hT⟩ := wk_dp dr
          obtain ⟨a, b, ts, t, c, tm, RK, cl⟩ := row_ok pal lt AR (pms.mem_iff.mp (List.mem_of_getElem? gr))
          refine ⟨t0, _, rfl, hT, rfl, _, _, rfl, _, _, rfl, _, _, rfl, _, _, rfl, rfl, ?_⟩
          have hi2 : i < ms.length := by omega
          obtain ⟨hh, nm, r3, r4⟩ := r
          obtain rfl : r3 = ((a : Nat) : Int) := RK.p1
          obtain rfl : r4 = ((b : Nat) : Int) := RK.p2
          have dps9 := dp_same s9 dps
          obtain ⟨px, hpx, dpx⟩ : ∃ px, SqL K H14 PP px ∧ DpAll K H14 px (ps.map potD) := by
            cases dps9 with
            | lst h1 h2 => exact ⟨_, h1, h2⟩
          have lpx : px.length = ps.length := dpAll_map_len dpx
          have la : a < ps.length := (List.getElem?_eq_some_iff.mp RK.g1).1
          have lb : b < ts.length := (List.getElem?_eq_some_iff.mp RK.g2).1
          obtain ⟨vp, gvp⟩ : ∃ vp, px[a]? = some vp := ⟨_, List.getElem?_eq_getElem (show a < px.length by omega)⟩
          obtain ⟨ts', gts, dts⟩ := dpAll_map_at dpx gvp
          rw [RK.g1] at gts
          obtain rfl := Option.some.inj gts
          obtain ⟨pa, tx, rfl, hpa, dtx⟩ : ∃ pa tx, vp = .ref pa ∧ SqL K H14 pa tx ∧ DpAll K H14 tx (ts.map trD) := by
            unfold potD at dts
            cases dts with
            | lst h1 h2 => exact ⟨_, _, rfl, h1, h2⟩
          have ltx : tx.length = ts.length := dpAll_map_len dtx
          obtain ⟨vt, gvt⟩ : ∃ vt, tx[b]? = some vt := ⟨_, List.getElem?_eq_getElem (show b < tx.length by omega)⟩
          obtain ⟨t', gt', dt'⟩ := dpAll_map_at dtx gvt
          rw [RK.g2] at gt'
          obtain rfl := Option.some.inj gt'
          obtain ⟨ta, rfl, hta⟩ := tr_dp dt'
          simp only [gName, List.set]
          refine ⟨_, rfl, _, rfl, _, _, rfl, .inl ⟨_, hpx, rfl⟩, _, _, rfl, rfl, .int (a : Nat), .int (a : Nat), 0, _, rfl, .int _, ?_⟩
          rw [show numD 0 (((px.length : Nat) : Int) - 1) (.int ((a : Nat) : Int)) = true by
            show (decide (0 ≤ ((a : Nat) : Int)) && decide (((a : Nat) : Int) ≤ ((px.length : Nat) : Int) - 1)) = true
            rw [Bool.and_eq_true, decide_eq_true_eq, decide_eq_true_eq]; omega]
          refine ⟨_, rfl, iteF ?_⟩
          refine ⟨_, rfl, _, rfl, _, rfl, PP, px, _, _, rfl, rfl, hpx, atI_nat gvp, _, _, rfl, .inl ⟨_, hpa, rfl⟩, _, _, rfl, rfl, .int (b : Nat), .int (b : Nat), 0, _, rfl, .int _, ?_⟩
          rw [show numD 0 (((tx.length : Nat) : Int) - 1) (.int ((b : Nat) : Int)) = true by
            show (decide (0 ≤ ((b : Nat) : Int)) && decide (((b : Nat) : Int) ≤ ((tx.length : Nat) : Int) - 1)) = true
            rw [Bool.and_eq_true, decide_eq_true_eq, decide_eq_true_eq]; omega]
          refine ⟨_, rfl, iteF ?_⟩
          refine ⟨_, rfl, _, rfl, PP, px, _, _, rfl, rfl, hpx, atI_nat gvp, _, rfl, pa, tx, _, _, rfl, rfl, hpa, atI_nat gvt, ta, _, rfl, hta, rfl, _, _, rfl, _, _, rfl, _, _, rfl, _, _, rfl, rfl, ?_⟩
          simp only [gName, List.set]
          have ga := RK.ga
          have ga : gaK cs ps (((a : Nat) : Int), ((b : Nat) : Int)) = c.2.2.2 := ga
          have lv := left_val (gaK cs ps) _ (ms.take i) rfl (((a : Nat) : Int), ((b : Nat) : Int))
          obtain ⟨vl, evl⟩ : ∃ vl : Int, (valV (leftF (gaK cs ps) (ms.take i)) (kyL (((a : Nat) : Int), ((b : Nat) : Int)))).getD (.int c.2.2.2) = .int vl := by
            rw [lv]
            split
            · exact ⟨_, rfl⟩
            · exact ⟨_, rfl⟩
          have ll := left_len (gaK cs ps) _ (ms.take i) rfl
          rw [List.length_take] at ll
          have ck2 := List.Pairwise.map (f := fun z : Str => (Sum.inr z : Key)) (R := (· ≠ ·)) (S := (· ≠ ·)) (fun a b n e => n (Sum.inr.inj e)) unc
          have tk2 := List.Pairwise.map (f := fun z : Str => (Sum.inr z : Key)) (R := (· ≠ ·)) (S := (· ≠ ·)) (fun a b n e => n (Sum.inr.inj e)) und
          rw [List.map_map] at ck2 tk2
          obtain ⟨c1, c2⟩ := colF_in RK.c1
          have vg2 : valV (cs.map ckV) (.inr t.2.1) = some (.int c.2.2.2) := val_map41 (g := ckV) ck2 c1 (by show Sum.inr c.1 = _; rw [c2])
          have vg1 : valV (tms.map tkV) (.inr nm) = some (.str t.2.1) := by
            have := val_map41 (g := tkV) (z := nm) tk2 RK.m (by show Sum.inr tm.1 = _; rw [RK.n])
            rw [this]
            show some (V.str tm.2.1) = _
            rw [RK.e]
          refine ⟨_, rfl, p5, rfl, .inr ⟨_, .inl h5⟩, _, rfl, _, rfl, (by show 2 ≤ sizeLine; decide), fun u nu => ?_⟩
          have su := same_upd (o := .tup [.int ((a : Nat) : Int), .int ((b : Nat) : Int)]) nu
          have fu : upd H14 u (.tup [.int ((a : Nat) : Int), .int ((b : Nat) : Int)]) u = some (.tup [.int ((a : Nat) : Int), .int ((b : Nat) : Int)]) := upd_same
          have s9 := s9.trans su
          have g1 := su _ _ g1
          have g2 := su _ _ g2
          have h5 := su _ _ h5
          have h6 := su _ _ h6
          generalize upd H14 u (.tup [.int ((a : Nat) : Int), .int ((b : Nat) : Int)]) = H15 at fu s9 g1 g2 h5 h6 ⊢
          clear su nu hta hpa hpx dpx dtx dts dt' dps9 hT dr
          have dg2 : DGet H15 G2 (.str t.2.1) (some (.int c.2.2.2)) := by
            have := DGet.k (k := .inr t.2.1) g2
            rw [vg2] at this
            exact this
          refine ⟨_, rfl, _, rfl, G2, .int c.2.2.2, rfl, dg2, _, DGet.t (k := kyL (((a : Nat) : Int), ((b : Nat) : Int))) h5 fu, vl, 1, evl, rfl, ?_⟩
          refine ⟨_, rfl, _, rfl, _, rfl, (by show 2 ≤ sizeLine; decide), fun u2 nu => ?_⟩
          have su := same_upd (o := .tup [.int ((a : Nat) : Int), .int ((b : Nat) : Int)]) nu
          have fu : upd H15 u2 (.tup [.int ((a : Nat) : Int), .int ((b : Nat) : Int)]) u2 = some (.tup [.int ((a : Nat) : Int), .int ((b : Nat) : Int)]) := upd_same
          have s9 := s9.trans su
          have g1 := su _ _ g1
          have g2 := su _ _ g2
          have h5 := su _ _ h5
          have h6 := su _ _ h6
          generalize upd H15 u2 (.tup [.int ((a : Nat) : Int), .int ((b : Nat) : Int)]) = H16 at fu s9 g1 g2 h5 h6 ⊢
          clear su nu dg2
          refine ⟨p5, _, rfl, DPut.t (k := kyL (((a : Nat) : Int), ((b : Nat) : Int))) h5 fu (by rw [sizeLine_eq]; omega), ?_⟩
          have el : putK (leftF (gaK cs ps) (ms.take i)) (kyL (((a : Nat) : Int), ((b : Nat) : Int))) (.int (vl - 1)) = leftF (gaK cs ps) (ms.take (i + 1)) := by
            rw [List.take_add_one, gr]
            show _ = leftF (gaK cs ps) (ms.take i ++ [_])
            rw [left_snoc]
            unfold lfS
            rw [ga, evl]; rfl
          rw [el]
          have e15 : G1 ≠ p5 := fun e => by rw [e, h5] at g1; cases g1
          have e25 : G2 ≠ p5 := fun e => by rw [e, h5] at g2; cases g2
          have s9 := same_put (o := .dT (leftF (gaK cs ps) (ms.take (i + 1)))) s9 nW5
          have h6 : upd H16 p5 (.dT (leftF (gaK cs ps) (ms.take (i + 1)))) p6 = _ := (upd_ne n56.symm).trans h6
          have g1 : upd H16 p5 (.dT (leftF (gaK cs ps) (ms.take (i + 1)))) G1 = _ := (upd_ne e15).trans g1
          have g2 : upd H16 p5 (.dT (leftF (gaK cs ps) (ms.take (i + 1)))) G2 = _ := (upd_ne e25).trans g2
          have h5 : upd H16 p5 (.dT (leftF (gaK cs ps) (ms.take (i + 1)))) p5 = some (.dT (leftF (gaK cs ps) (ms.take (i + 1)))) := upd_same
          generalize upd H16 p5 (.dT (leftF (gaK cs ps) (ms.take (i + 1)))) = H17 at s9 g1 g2 h5 h6 ⊢
          clear fu el
          have dg1 : DGet H17 G1 (.str nm) (some (.str t.2.1)) := by
            have := DGet.k (k := .inr nm) g1
            rw [vg1] at this
            exact this
          refine ⟨_, rfl, _, rfl, _, rfl, G1, .str t.2.1, rfl, dg1, rfl, _, rfl, ?_⟩
          rw [show (!decide (V.str t.2.1 = V.str t.2.1)) = false by rw [decide_eq_true rfl]; rfl]
          refine iteF ?_
          have lo : t.2.2.1 ≤ hh := RK.lo
          have hi3 : hh < t.2.2.2 := RK.hi
          refine ⟨_, rfl, _, rfl, _, _, rfl, rfl, _, rfl, ?_⟩
          rw [decide_eq_true lo]
          refine iteT ⟨_, rfl, _, _, rfl, rfl, _, rfl, ?_⟩
          rw [decide_eq_true hi3]
          refine iteF ?_
          refine ⟨_, rfl, _, rfl, _, rfl, (by show 3 ≤ sizeLine; decide), fun u3 nu => ?_⟩
          have kni : k3 (hh, nm, ((a : Nat) : Int), ((b : Nat) : Int)) ∉ (ms.take i).map k3 := fun q => by
            rw [List.map_take] at q
            obtain ⟨j, hj, e⟩ := List.mem_iff_getElem.mp q
            rw [List.length_take, List.length_map] at hj
            rw [List.getElem_take] at e
            have := List.pairwise_iff_getElem.mp kn j i (by rw [List.length_map]; omega) (by rw [List.length_map]; omega) (by omega)
            refine this (e.trans ?_)
            rw [List.getElem_map]
            rw [List.getElem?_eq_getElem hi2] at gr
            rw [Option.some.inj gr]
          have tn := tak_none kni
          have su := same_upd (o := .tup [.int hh, .int ((a : Nat) : Int), .int ((b : Nat) : Int)]) nu
          have fu : upd H17 u3 (.tup [.int hh, .int ((a : Nat) : Int), .int ((b : Nat) : Int)]) u3 = some (.tup [.int hh, .int ((a : Nat) : Int), .int ((b : Nat) : Int)]) := upd_same
          have s9 := s9.trans su
          have g1 := su _ _ g1
          have g2 := su _ _ g2
          have h5 := su _ _ h5
          have h6 := su _ _ h6
          generalize upd H17 u3 (.tup [.int hh, .int ((a : Nat) : Int), .int ((b : Nat) : Int)]) = H18 at fu s9 g1 g2 h5 h6 ⊢
          clear su nu dg1
          have dg6 : DGet H18 p6 (.ref u3) none := by
            have := DGet.t (k := tkL (hh, nm, ((a : Nat) : Int), ((b : Nat) : Int))) h6 fu
            rw [tn] at this
            exact this
          refine ⟨_, rfl, p6, none, rfl, dg6, _, rfl, iteF ?_⟩
          refine ⟨_, rfl, _, rfl, _, rfl, _, rfl, (by show 3 ≤ sizeLine; decide), fun u4 nu => ?_⟩
          have su := same_upd (o := .tup [.int hh, .int ((a : Nat) : Int), .int ((b : Nat) : Int)]) nu
          have fu : upd H18 u4 (.tup [.int hh, .int ((a : Nat) : Int), .int ((b : Nat) : Int)]) u4 = some (.tup [.int hh, .int ((a : Nat) : Int), .int ((b : Nat) : Int)]) := upd_same
          have s9 := s9.trans su
          have g1 := su _ _ g1
          have g2 := su _ _ g2
          have h5 := su _ _ h5
          have h6 := su _ _ h6
          generalize upd H18 u4 (.tup [.int hh, .int ((a : Nat) : Int), .int ((b : Nat) : Int)]) = H19 at fu s9 g1 g2 h5 h6 ⊢
          clear su nu dg6
          have lt6 : (takF (ms.take i)).length < sizeLine := by unfold takF; rw [List.length_map, List.length_take, sizeLine_eq]; omega
          refine ⟨p6, _, rfl, DPut.t (k := tkL (hh, nm, ((a : Nat) : Int), ((b : Nat) : Int))) h6 fu lt6, ?_⟩
          have el : putK (takF (ms.take i)) (tkL (hh, nm, ((a : Nat) : Int), ((b : Nat) : Int))) (.bl true) = takF (ms.take (i + 1)) := by
            rw [L2.putK_new _ tn, List.take_add_one, gr]
            unfold takF
            rw [List.map_append]; rfl
          rw [el]
          have e16 : G1 ≠ p6 := fun e => by rw [e, h6] at g1; cases g1
          have e26 : G2 ≠ p6 := fun e => by rw [e, h6] at g2; cases g2
          exact ⟨_, _, _, _, _, _, _, _, _, _, rfl, same_put s9 nW6, (upd_ne e16).trans g1, (upd_ne e26).trans g2, (upd_ne n56).trans h5, upd_same⟩
        · rintro σ Hx ⟨v7, v8, v9, va, vb, ve, vf, vg, vh, vi, rfl, s9, g1, g2, h5, h6⟩
          rw [lus, List.take_length] at h5
          refine ⟨p5, .dT (leftF (gaK cs ps) ms), h5, trivial, fun od => ?_⟩
          refine ⟨_, rfl, p5, od, _, rfl, upd_same, fun C nC => ?_⟩
          have Cp5 : C ≠ p5 := fun e => by rw [e, upd_same] at nC; cases nC
          have lL := left_len (gaK cs ps) _ ms rfl
          have good := left_mem (gaK cs ps) _ ms rfl
          generalize leftF (gaK cs ps) ms = L at nC lL good ⊢
          refine lc_it (walk_valsT (d := p5) (o := od) (kvs := L)) (PvL (upd Hx p5 (.frz od (.dT L))) C fun j => ((L.map fun _ => true).take j).map V.bl) (pv_start nC rfl) (fun j Hy _ h => h.1 _ _ upd_same) ?_ ?_
          · rintro j y Hy Hz hj pv ⟨rfl, ky, gk⟩
            obtain ⟨kk, _, c0, e2⟩ := good _ (List.mem_of_getElem? gk)
            have e2 : y = .int (gaK cs ps kk - (cnK ms kk : Nat)) := e2
            subst e2
            have pos : 0 ≤ gaK cs ps kk - ((cnK ms kk : Nat) : Int) := by
              obtain ⟨r, hr, er⟩ := List.countP_pos_iff.mp (Nat.pos_of_ne_zero c0)
              have er : r.2.2 = kk := of_decide_eq_true er
              obtain ⟨a, b, ts, t, c, tm, RK, cl⟩ := row_ok pal lt AR (pms.mem_iff.mp hr)
              have ga := RK.ga
              rw [er] at ga cl
              have ec : cnK ms kk = (rs.map k3).countP fun x => decide (x.2 = kk) := by
                unfold cnK
                rw [pms.countP_eq, List.countP_map]; rfl
              rw [ga, ec]
              omega
            refine ⟨rfl, tYes_at ?_⟩
            rw [if_pos rfl]
            refine ⟨_, rfl, _, _, rfl, rfl, ?_⟩
            dsimp only
            rw [decide_eq_true pos]
            exact pv_put nC pv (Same.refl _) (take_map V.bl (by rw [List.getElem?_map, gk]; rfl)) (by rw [List.length_map, List.length_take, List.length_map, sizeLine_eq]; omega)
          · intro Hy pv
            obtain ⟨sm, hD⟩ := pv_end pv (take_all (by rw [List.length_map]; exact Nat.le_refl _))
            refine ⟨sm _ _ upd_same, C, _, rfl, SqL.of (by rw [upd_ne Cp5]; exact hD), ?_⟩
            have ea : ((L.map fun _ => true).all id) = true := by rw [List.all_map]; exact List.all_eq_true.mpr fun _ _ => rfl
            rw [ea]
            refine q _ fun b o e => ?_
            have e2 := s2 _ _ e
            have ne : b ≠ p5 := fun w => by rw [w, nW5] at e2; cases e2
            rw [upd_ne ne]
            exact sm _ _ (by rw [upd_ne ne]; exact s9 _ _ e2)

end
end Pot

namespace Pot
open PySem PySem.Spec PyProof.Rows L2
section
variable {P : Program} {w : World} {K : PySem.W.Frag} {mg : Str → Option Value} {base : Heap}
/-- all turns with their places -/
def tsP (i : Nat) : List Trn → Nat → List ((Nat × Nat) × Trn)
  | [], _ => []
  | t :: ts, j => ((i, j), t) :: tsP i ts (j + 1)
def psP : List (List Trn) → Nat → List ((Nat × Nat) × Trn)
  | [], _ => []
  | ts :: ps, i => tsP i ts 0 ++ psP ps (i + 1)
theorem tsP_mem {i : Nat} : ∀ {ts : List Trn} {j : Nat} {x : (Nat × Nat) × Trn}, x ∈ tsP i ts j → ∃ b, ts[b]? = some x.2 ∧ x.1 = (i, j + b)
  | [], _, x, h => (List.not_mem_nil h).elim
  | t :: ts, j, x, h => by
    rcases List.mem_cons.mp h with h | h
    · rw [h]; exact ⟨0, rfl, rfl⟩
    · obtain ⟨b, g, e⟩ := tsP_mem h
      exact ⟨b + 1, g, by rw [e, show j + 1 + b = j + (b + 1) by omega]⟩
theorem psP_mem : ∀ {ps : List (List Trn)} {i : Nat} {x : (Nat × Nat) × Trn}, x ∈ psP ps i → ∃ a b ts, ps[a]? = some ts ∧ ts[b]? = some x.2 ∧ x.1 = (i + a, b)
  | [], _, x, h => (List.not_mem_nil h).elim
  | ts :: ps, i, x, h => by
    rcases List.mem_append.mp (show x ∈ tsP i ts 0 ++ psP ps (i + 1) from h) with h | h
    · obtain ⟨b, g, e⟩ := tsP_mem h
      exact ⟨0, b, ts, rfl, g, by rw [e, Nat.zero_add]; rfl⟩
    · obtain ⟨a, b, ts2, g1, g2, e⟩ := psP_mem h
      exact ⟨a + 1, b, ts2, g1, g2, by rw [e, show i + 1 + a = i + (a + 1) by omega]⟩
theorem tsP_nd {i : Nat} : ∀ {ts : List Trn} {j : Nat}, ((tsP i ts j).map fun x => x.1).Nodup
  | [], _ => .nil
  | t :: ts, j => by
    show ((i, j) :: (tsP i ts (j + 1)).map fun x => x.1).Nodup
    refine List.nodup_cons.mpr ⟨fun h => ?_, tsP_nd⟩
    obtain ⟨x, hx, e⟩ := List.mem_map.mp h
    obtain ⟨b, _, e2⟩ := tsP_mem hx
    rw [e2] at e
    have := (Prod.mk.inj e).2
    omega
theorem psP_nd : ∀ {ps : List (List Trn)} {i : Nat}, ((psP ps i).map fun x => x.1).Nodup
  | [], _ => .nil
  | ts :: ps, i => by
    show ((tsP i ts 0 ++ psP ps (i + 1)).map fun x => x.1).Nodup
    rw [List.map_append]
    refine List.nodup_append.mpr ⟨tsP_nd, psP_nd, fun p hp q hq e => ?_⟩
    obtain ⟨x, hx, rfl⟩ := List.mem_map.mp hp
    obtain ⟨y, hy, rfl⟩ := List.mem_map.mp hq
    obtain ⟨b, _, e1⟩ := tsP_mem hx
    obtain ⟨a, b2, ts2, _, _, e2⟩ := psP_mem hy
    rw [e1, e2] at e
    have := (Prod.mk.inj e).1
    omega
theorem psP_app : ∀ (a b : List (List Trn)) (i : Nat), psP (a ++ b) i = psP a i ++ psP b (i + a.length)
  | [], b, i => by simp [psP]
  | t :: a, b, i => by
    show tsP i t 0 ++ psP (a ++ b) (i + 1) = (tsP i t 0 ++ psP a (i + 1)) ++ psP b _
    rw [psP_app a b (i + 1), List.append_assoc, List.length_cons, show i + 1 + a.length = i + (a.length + 1) by omega]
theorem psP_take {ps : List (List Trn)} {i : Nat} {ts : List Trn} (g : ps[i]? = some ts) : psP (ps.take (i + 1)) 0 = psP (ps.take i) 0 ++ tsP i ts 0 := by
  have hj := (List.getElem?_eq_some_iff.mp g).1
  rw [List.take_add_one, g, psP_app]
  show _ ++ (tsP _ ts 0 ++ []) = _
  rw [List.append_nil, List.length_take, Nat.min_eq_left (by omega), Nat.zero_add]
theorem tsP_map {i : Nat} : ∀ (ts : List Trn) (j : Nat), (tsP i ts j).map (fun x => x.2) = ts
  | [], _ => rfl
  | t :: ts, j => by
    show t :: (tsP i ts (j + 1)).map (fun x => x.2) = _
    rw [tsP_map ts (j + 1)]
/-- each team has a turn of its own, at hours at which it's worked, no more than its gathers -/
def OwnT (cs : List Col) (ps : List (List Trn)) (tm : Tm) (p : Nat × Nat) : Prop := ∃ ts t c, ps[p.1]? = some ts ∧ ts[p.2]? = some t ∧ t.2.1 = tm.2.1 ∧ colF cs t.2.1 = some c ∧ t.2.2.1 ≤ tm.2.2.1 ∧ tm.2.2.2 ≤ t.2.2.2 ∧ tm.2.2.2 - tm.2.2.1 ≤ c.2.2.2
structure Own (cs : List Col) (ps : List (List Trn)) (tms : List Tm) (pos : List (Nat × Nat)) : Prop where
  nd : pos.Nodup
  all : Paired (OwnT cs ps) tms pos
theorem sum_cw {z : Str} {S : List Nat} : ∀ tms : List Tm, (S.map fun h => ((cw z tms h : Nat) : Int)).sum = ((tms.filter fun t => decide (t.2.1 = z)).map fun t => (((S.filter fun h => decide (t.2.2.1 ≤ ((h : Nat) : Int)) && decide (((h : Nat) : Int) < t.2.2.2)).length : Nat) : Int)).sum
  | [] => by
    induction S with
    | nil => rfl
    | cons x S ih => rw [List.map_cons, List.sum_cons, ih]; rfl
  | t :: tms => by
    have e : ∀ h : Nat, cw z (t :: tms) h = (if wantB z (h : Int) t = true then 1 else 0) + cw z tms h := fun h => by
      unfold cw
      rw [List.filter_cons]
      split
      · rw [List.length_cons]; omega
      · omega
    have e1 : (S.map fun h => ((cw z (t :: tms) h : Nat) : Int)).sum = (S.map fun h : Nat => (if wantB z (h : Int) t = true then (1 : Int) else 0)).sum + (S.map fun h => ((cw z tms h : Nat) : Int)).sum := by
      induction S with
      | nil => rfl
      | cons x S ih =>
        simp only [List.map_cons, List.sum_cons]
        rw [ih, e x]
        split <;> omega
    rw [e1, sum_cw tms, List.filter_cons]
    by_cases c : t.2.1 = z
    · rw [if_pos (decide_eq_true c), List.map_cons, List.sum_cons]
      congr 1
      clear e1 e
      induction S with
      | nil => rfl
      | cons x S ih =>
        rw [List.map_cons, List.sum_cons, ih, List.filter_cons]
        unfold wantB
        rw [decide_eq_true c, Bool.true_and]
        split
        · rw [List.length_cons]; omega
        · omega
    · rw [if_neg (by simpa using c)]
      have : (S.map fun h : Nat => (if wantB z (h : Int) t = true then (1 : Int) else 0)).sum = 0 := by
        clear e1 e
        induction S with
        | nil => rfl
        | cons x S ih =>
          rw [List.map_cons, List.sum_cons, ih]
          unfold wantB
          rw [decide_eq_false c]; rfl
      rw [this, Int.zero_add]

theorem selT_has {g : Int} {z : Str} {i : Nat} : ∀ {ts : List Trn} {j b : Nat} {t : Trn}, ts[b]? = some t → t.2.1 = z → ((i, j + b, t.2.2.1, t.2.2.2, g) : Off5) ∈ selT g z i ts j
  | [], _, _, _, h, _ => by cases h
  | x :: ts, j, 0, t, h, e => by
    cases h
    refine List.mem_append.mpr (.inl ?_)
    rw [if_pos e]
    exact List.mem_cons_self
  | x :: ts, j, b + 1, t, h, e => by
    refine List.mem_append.mpr (.inr ?_)
    have := selT_has (g := g) (i := i) (j := j + 1) (b := b) (ts := ts) h e
    rwa [show j + 1 + b = j + (b + 1) by omega] at this
theorem selP_has {g : Int} {z : Str} : ∀ {ps : List (List Trn)} {i a b : Nat} {ts : List Trn} {t : Trn}, ps[a]? = some ts → ts[b]? = some t → t.2.1 = z → ((i + a, b, t.2.2.1, t.2.2.2, g) : Off5) ∈ selP g z ps i
  | [], _, _, _, _, _, h, _, _ => by cases h
  | x :: ps, i, 0, b, ts, t, h, h2, e => by
    cases h
    refine List.mem_append.mpr (.inl ?_)
    have := selT_has (g := g) (i := i) (j := 0) h2 e
    rwa [Nat.zero_add] at this
  | x :: ps, i, a + 1, b, ts, t, h, h2, e => by
    refine List.mem_append.mpr (.inr ?_)
    have := selP_has (g := g) (i := i + 1) (a := a) (ps := ps) h h2 e
    rwa [show i + 1 + a = i + (a + 1) by omega] at this
theorem o5_has {cs : List Col} {ps : List (List Trn)} {z : Str} {a b : Nat} {ts : List Trn} {t : Trn} {c : Col} (h1 : ps[a]? = some ts) (h2 : ts[b]? = some t) (e : t.2.1 = z) (ec : colF cs z = some c) : ∃ m, m < (o5F cs ps z).length ∧ (o5F cs ps z).getD m o50 = (a, b, t.2.2.1, t.2.2.2, c.2.2.2) := by
  have h : ((a, b, t.2.2.1, t.2.2.2, c.2.2.2) : Off5) ∈ o5F cs ps z := by
    unfold o5F
    rw [ec]
    have := selP_has (g := c.2.2.2) (z := c.1) (i := 0) h1 h2 (e.trans (colF_in ec).2.symm)
    rwa [Nat.zero_add] at this
  obtain ⟨m, hm, e2⟩ := List.mem_iff_getElem.mp h
  exact ⟨m, hm, by rw [List.getD_eq_getElem?_getD, List.getElem?_eq_getElem hm, e2]; rfl⟩
/-- an offer has room for a team -/
def Fits (cs : List Col) (ps : List (List Trn)) (z : Str) (t : Tm) (m : Nat) : Prop := ((o5F cs ps z).getD m o50).2.2.1 ≤ t.2.2.1 ∧ t.2.2.2 ≤ ((o5F cs ps z).getD m o50).2.2.2.1 ∧ t.2.2.2 - t.2.2.1 ≤ ((o5F cs ps z).getD m o50).2.2.2.2
theorem own_idx {cs : List Col} {ps : List (List Trn)} {z : Str} : ∀ {tms : List Tm} {pos : List (Nat × Nat)}, Paired (OwnT cs ps) tms pos → pos.Nodup → ∃ ms : List Nat, ms.Nodup ∧ (∀ m ∈ ms, m < (o5F cs ps z).length ∧ (((o5F cs ps z).getD m o50).1, ((o5F cs ps z).getD m o50).2.1) ∈ pos) ∧ Paired (Fits cs ps z) (tms.filter fun t => decide (t.2.1 = z)) ms
  | _, _, .nil, _ => ⟨[], .nil, fun m h => (List.not_mem_nil h).elim, .nil⟩
  | _, _, .cons (a := tm) (b := p) f r, nd => by
    obtain ⟨n1, n2⟩ := List.nodup_cons.mp nd
    obtain ⟨ms, a1, a2, a3⟩ := own_idx (z := z) r n2
    rw [List.filter_cons]
    by_cases c : tm.2.1 = z
    · rw [if_pos (decide_eq_true c)]
      obtain ⟨ts, t, cc, g1, g2, e1, e2, l1, l2, l3⟩ := f
      obtain ⟨m, hm, em⟩ := o5_has (z := z) g1 g2 (e1.trans c) (by rw [← c, ← e1]; exact e2)
      refine ⟨m :: ms, List.nodup_cons.mpr ⟨fun h => ?_, a1⟩, fun x hx => ?_, .cons ?_ a3⟩
      · have := (a2 m h).2
        rw [em] at this
        exact n1 this
      · rcases List.mem_cons.mp hx with q | q
        · rw [q, em]; exact ⟨hm, List.mem_cons_self⟩
        · exact ⟨(a2 x q).1, List.mem_cons_of_mem _ (a2 x q).2⟩
      · unfold Fits
        rw [em]
        exact ⟨l1, l2, l3⟩
    · rw [if_neg (by simpa using c)]
      exact ⟨ms, a1, fun x hx => ⟨(a2 x hx).1, List.mem_cons_of_mem _ (a2 x hx).2⟩, a3⟩
theorem nodup_leG41 {α : Type} [DecidableEq α] : ∀ {l ts : List α}, l.Nodup → (∀ x ∈ l, x ∈ ts) → l.length ≤ ts.length
  | [], _, _, _ => Nat.zero_le _
  | x :: l, ts, h, m => by
    obtain ⟨h1, h2⟩ := List.nodup_cons.mp h
    have hx := m x List.mem_cons_self
    have := nodup_leG41 (l := l) (ts := ts.erase x) h2 fun y hy => (List.mem_erase_of_ne fun e => h1 (by rw [← e]; exact hy)).mpr (m y (List.mem_cons_of_mem _ hy))
    rw [List.length_erase_of_mem hx] at this
    have := List.length_pos_of_mem hx
    rw [List.length_cons]
    omega
theorem cnt_iv {S : List Nat} (nd : S.Nodup) {lo hi : Int} (h0 : 0 ≤ lo) (h1 : lo ≤ hi) : (((S.filter fun h => decide (lo ≤ ((h : Nat) : Int)) && decide (((h : Nat) : Int) < hi)).length : Nat) : Int) ≤ hi - lo := by
  have := nodup_leG41 (l := S.filter fun h => decide (lo ≤ ((h : Nat) : Int)) && decide (((h : Nat) : Int) < hi)) (ts := List.range' lo.toNat (hi - lo).toNat) (nd.sublist List.filter_sublist) fun x hx => by
    have h := (List.mem_filter.mp hx).2
    rw [Bool.and_eq_true, decide_eq_true_eq, decide_eq_true_eq] at h
    rw [List.mem_range'_1]
    omega
  rw [List.length_range'] at this
  omega
theorem paired_sum {α β : Type} {f : α → Int} {g : β → Int} : ∀ {l : List α} {m : List β}, Paired (fun a b => f a ≤ g b) l m → (l.map f).sum ≤ (m.map g).sum
  | _, _, .nil => Int.le_refl _
  | _, _, .cons h r => by
    have := paired_sum r
    rw [List.map_cons, List.map_cons, List.sum_cons, List.sum_cons]
    omega
theorem paired_mem {α β : Type} {F G : α → β → Prop} : ∀ {l : List α} {m : List β}, Paired F l m → (∀ a ∈ l, ∀ b ∈ m, F a b → G a b) → Paired G l m
  | _, _, .nil, _ => .nil
  | _, _, .cons f r, h => .cons (h _ List.mem_cons_self _ List.mem_cons_self f) (paired_mem r fun a ha b hb => h a (List.mem_cons_of_mem _ ha) b (List.mem_cons_of_mem _ hb))
theorem own_none {cs : List Col} {ws : List Wsh} {ps : List (List Trn)} {tms : List Tm} {pos : List (Nat × Nat)} (pal : PalE cs ws) (l : tms.length ≤ 20) (O : Own cs ps tms pos) (tk : ∀ t ∈ tms, 0 ≤ t.2.2.1 ∧ t.2.2.1 ≤ t.2.2.2) : Told cs ps tms none := by
  intro c hc
  unfold hzF hourF
  cases e : servedF (ofsF cs ps c.1) (cwL c.1 tms 60) with
  | inl rows => rfl
  | inr r =>
    exfalso
    obtain ⟨h, S⟩ := r
    have L := (served_ok (fun z hz => (cwL_bd l z hz).1) (ofs_gn (ps := ps) (z := c.1) pal)).2 h S e
    have lt := L.lt
    rw [cwL_len] at lt
    obtain ⟨ms, m1, m2, m3⟩ := own_idx (z := c.1) O.all O.nd
    have e1 : (S.map fun x => (cwL c.1 tms 60).getD x 0).sum = (S.map fun x => ((cw c.1 tms x : Nat) : Int)).sum := sum_congr fun x hx => by
      have := L.le x hx
      rw [cwL_at, if_pos (by omega)]
    have more := L.more
    rw [e1, sum_cw] at more
    have b1 := paired_sum (f := fun t : Tm => (((S.filter fun h => decide (t.2.2.1 ≤ ((h : Nat) : Int)) && decide (((h : Nat) : Int) < t.2.2.2)).length : Nat) : Int)) (g := fun m => min (gaF (ofsF cs ps c.1) m) (wincF (ofsF cs ps c.1) m S)) (paired_mem (l := tms.filter fun t => decide (t.2.1 = c.1)) (m := ms) m3 fun t ht m hm F => by
      obtain ⟨f1, f2, f3⟩ := F
      have lm := (m2 m hm).1
      have tk := tk t (List.mem_filter.mp ht).1
      have eos : (ofsF cs ps c.1).getD m o0 = ((o5F cs ps c.1).getD m o50).2.2 := by
        rw [o5_ofs, List.getD_eq_getElem?_getD, List.getElem?_map, List.getElem?_eq_getElem lm, List.getD_eq_getElem?_getD, List.getElem?_eq_getElem lm]; rfl
      have c1 := cnt_iv (S := S) L.nd tk.1 tk.2
      refine Int.le_min.mpr ⟨?_, ?_⟩
      · unfold gaF
        rw [eos]
        omega
      · unfold wincF
        refine Int.ofNat_le.mpr ?_
        rw [← List.countP_eq_length_filter, ← List.countP_eq_length_filter]
        refine List.countP_mono_left fun x _ hx => ?_
        rw [Bool.and_eq_true, decide_eq_true_eq, decide_eq_true_eq] at hx
        rw [decide_eq_true_eq]
        unfold inW
        rw [eos]
        omega)
    have b2 : (ms.map fun m => min (gaF (ofsF cs ps c.1) m) (wincF (ofsF cs ps c.1) m S)).sum ≤ roomF (ofsF cs ps c.1) S := by
      rw [sum_sg (L := (ofsF cs ps c.1).length) m1 fun m hm => by rw [o5_len]; exact (m2 m hm).1]
      unfold roomF
      refine sg_le fun m hm => ?_
      split
      · exact Int.le_refl _
      · refine Int.le_min.mpr ⟨?_, Int.natCast_nonneg _⟩
        unfold gaF
        exact ofs_gn (ps := ps) (z := c.1) pal _ (by rw [List.getD_eq_getElem?_getD, List.getElem?_eq_getElem hm]; exact List.getElem_mem hm)
    omega

end
end Pot

namespace Pot
open PySem PySem.Spec PyProof.Rows L2
section
variable {P : Program} {w : World} {K : PySem.W.Frag} {mg : Str → Option Value} {base : Heap}
theorem tsP_len {i : Nat} : ∀ (ts : List Trn) (j : Nat), (tsP i ts j).length = ts.length
  | [], _ => rfl
  | t :: ts, j => by
    show (tsP i ts (j + 1)).length + 1 = _
    rw [tsP_len ts (j + 1)]; rfl
theorem psP_len : ∀ {ps : List (List Trn)} {i : Nat}, (∀ t ∈ ps, t.length ≤ 9) → (psP ps i).length ≤ 9 * ps.length
  | [], _, _ => Nat.zero_le _
  | ts :: ps, i, h => by
    have h1 := psP_len (ps := ps) (i := i + 1) fun t ht => h t (List.mem_cons_of_mem _ ht)
    have h2 := h ts List.mem_cons_self
    show (tsP i ts 0 ++ psP ps (i + 1)).length ≤ 9 * (ps.length + 1)
    rw [List.length_append, tsP_len]
    omega
theorem noL_trs2 (l : List ((Nat × Nat) × Trn)) : noLAll (l.map fun x => trD x.2) := noL_map (f := fun x : (Nat × Nat) × Trn => trD x.2) (fun t => (⟨trivial, trivial, trivial, trivial, trivial⟩ : noLAll.noL (trD t.2))) l
abbrev s__law_own_teams : Stmt := topS 34
def n__law_own_teams : List Str := ["_law_box_here", "_law_palette_here", "_law_pots_here", "_law_names_here", "_law_gathers", "_law_turns", "_law_some", "_law_found", "_law_name", "_law_at", "_law_colour", "_law_begin", "_law_end", "_law_first", "_law_row"]
theorem sc__law_own_teams : FnScope n__law_own_teams ["_law_box_here", "_law_palette_here", "_law_pots_here", "_law_names_here"] (defScope s__law_own_teams) := ⟨rfl, rfl, rfl, by decide +kernel, rfl, by decide +kernel, by decide +kernel⟩
def spOwnT (K : PySem.W.Frag) : Sp := fun vs H Q _ => ∃ (b PP N : Addr) (v : V) (cs : List Col) (ws : List Wsh) (ps : List (List Trn)) (ys : List Str) (n : Nat), vs = [.ref b, v, .ref PP, .ref N] ∧ Bp H b n ∧ n < 2 ^ 37 ∧ Dp K (off H [b]) v (palD cs ws) ∧ PalE cs ws ∧ (cs.map fun c => c.1).Nodup ∧ Dp K (off H [b]) (.ref PP) (potsD ps) ∧ PotsOk cs ps ∧ off H [b] N = some (.lst (ys.map V.str)) ∧ ys.length ≤ 12 ∧ (∀ y ∈ ys, Nm y) ∧ ys.Nodup ∧
  ∀ (H' : Hp) (L : Addr) (us : List V) (tms : List Tm) (pos : List (Nat × Nat)), Bp H' b (n + 40) → Sm [b] H H' → H L = none → H' L = some (.lst us) → DpAll K (off H' [b]) us (tms.map tmD) → tms.length ≤ 12 → (∀ t ∈ tms, TmOk t ∧ ∃ c ∈ cs, c.1 = t.2.1) → (tms.map fun t => t.1).Nodup → Own cs ps tms pos → (∀ t ∈ tms, t.2.2.1 ≤ t.2.2.2) → Q (.ref L) H'
set_option maxHeartbeats 4000000 in
theorem ok_ownt {f : Addr} {fd : FuncData} {k : Nat} (F : Fun K "_law_own_teams" "_law_own_teams" s__law_own_teams f fd) (T : Txt mg) (LD : Dct mg) (c__law_take : Cl P w K mg base (k + 1) "_law_take" spTake) : FnOk P w K mg base CX0 (k + 2) f fd ["_law_box_here", "_law_palette_here", "_law_pots_here", "_law_names_here"] (spOwnT K) := by
  refine F.ok sc__law_own_teams (fun vs H Q E h => ?_) (fun cdv A outer s H vs Q E hr h => ?_)
  · obtain ⟨b, PP, N, v, cs, ws, ps, ys, n, rfl, _⟩ := h
    rfl
  · obtain ⟨b, PP, N, v, cs, ws, ps, ys, n, rfl, B, hn, dv, pal, unc, dps, pok, fN, l12, ny, yn, q⟩ := h
    have nd := sc__law_own_teams.nd
    have hu := hu_of hr
    have hu64 := hr.units
    refine ⟨_, (pss_cons (ps_par (i := 4) (j := 5) rfl nd rfl rfl (by decide) rfl rfl (pa_cons (pe_callTy (kc_dictP (K := K)) (by rfl) LD (by decide +kernel) (pa_cons (pe_lc (own := [("_law_row", 14)]) rfl nd (ki_tup (K := K) (pe_ix (kx_tup (K := K)) (pv 1) pe_int (fun _ _ => rfl))) (blkOk_by (N := n__law_own_teams) (sc := defScope s__law_own_teams) (by decide +kernel)) (fun _ _ _ _ _ => (pg_name (i := 14) nd rfl (.inl rfl))) (fun _ _ _ _ _ => pts_nil) (fun _ _ _ _ _ => (pe_tup (pa_cons (pe_ix (kx_tup (K := K)) (pv 14) pe_int (fun _ _ => rfl)) (pa_cons (pe_ix (kx_tup (K := K)) (pv 14) pe_int (fun _ _ => rfl)) pa_nil))))) pa_nil)) (pa_cons (pe_lst pa_nil) pa_nil)) rfl)
      (pss_cons (ps_for PassesOwn.never rfl (ki_list (K := K) (pv 2)) (pg_name (i := 6) nd rfl (.inl rfl))
          (pss_one (ps_expr (pe_bm PySem.F.plainAttrs_list PySem.F.slot_list_extend PySem.F.type_list_extend (mt_extL (K := K)) (pv 5) (pa_cons (pv 6) pa_nil)))))
      (pss_cons (ps_set (i := 7) nd rfl (.inl rfl) (pe_lst pa_nil))
      (pss_cons (ps_for PassesOwn.never rfl (ki_list (K := K) (pv 3)) (pg_name (i := 8) nd rfl (.inl rfl))
          (pss_one (ps_if (pt_cmpR (ko_ne (K := K) hu64) (pv 5) (pe_lst pa_nil) (nomark _))
              (pss_cons (ps_asg (pe_bm PySem.F.plainAttrs_list PySem.F.slot_list_pop PySem.F.type_list_pop mt_popAt (pv 5) (pa_cons (pe_cl c__law_take hr (by omega) (by rfl) (pa_cons (pv 0) (pa_cons (pe_callB (kc_len (K := K)) (by rfl) T.len PySem.boot_len (pa_cons (pv 5) pa_nil)) pa_nil))) pa_nil)) (kg_tup (K := K) (n := 4) (pgs_cons (pg_name (i := 9) nd rfl (.inl rfl)) (pgs_cons (pg_name (i := 10) nd rfl (.inl rfl)) (pgs_cons (pg_name (i := 11) nd rfl (.inl rfl)) (pgs_cons (pg_name (i := 12) nd rfl (.inl rfl)) pgs_nil))))))
              (pss_cons (ps_set (i := 13) nd rfl (.inl rfl) (pe_op op_add (pv 11) (pe_cl c__law_take hr (by omega) (by rfl) (pa_cons (pv 0) (pa_cons (pe_op op_sub (pv 12) (pv 11)) pa_nil)))))
              (pss_one (ps_expr (pe_bm PySem.F.plainAttrs_list PySem.F.slot_list_append PySem.F.type_list_append mt_append (pv 7) (pa_cons (pe_tup (pa_cons (pv 8) (pa_cons (pv 10) (pa_cons (pv 13) (pa_cons (pe_op op_add (pe_op op_add (pv 13) pe_int) (pe_cl c__law_take hr (by omega) (by rfl) (pa_cons (pv 0) (pa_cons (pe_callB (call_min2 rfl) (by rfl) T.min (by decide +kernel) (pa_cons (pe_op op_sub (pv 12) (pv 13)) (pa_cons (pe_dget hu (pv 4) (pv 10) (fun _ _ => rfl)) pa_nil))) pa_nil)))) pa_nil))))) pa_nil))))))
              pss_nil)))
      (pss_one (ps_ret (pv 7))))))), ?_⟩
    obtain ⟨p, ca, wa, cx, cy, ev, hp, hc, hx, hw, hy⟩ := pal_dp dv
    subst ev
    have lcx : cx.length = cs.length := dpAll_map_len hx
    have lc6 := pal.le
    have o0 : Same (off H [b]) H := off_sub
    refine ⟨_, rfl, p, _, 0, .ref ca, rfl, rfl, same_tup o0 hp, rfl, ca, rfl, ⟨_, same_tup o0 hc⟩, fun C nC => ?_⟩
    refine lc_it (walk_tup (xs := cx)) (fun j Hy => Same H Hy ∧ ∃ qs : List Addr, Hy C = some (.lst (qs.map V.ref)) ∧ qs.length = j ∧ Paired (fun p kv => SqT K (off Hy [C]) p [kV kv.1, kv.2]) qs ((cs.take j).map ckV)) ⟨same_upd nC, [], upd_same, rfl, .nil⟩ (fun j Hy _ h => same_tup (o0.trans h.1) hc) ?_ ?_
    · rintro j y H11 H12 hj ⟨s9, qs, hC, lq, pq⟩ ⟨rfl, gy⟩
      obtain ⟨c, gc, dc⟩ := dpAll_map_at (dpAll_same (o0.trans s9) hx) gy
      obtain ⟨a, rfl, ha⟩ := col_dp dc
      refine ⟨rfl, tYes_at ?_⟩
      rw [if_pos rfl]
      refine ⟨_, rfl, a, _, 0, .str c.1, rfl, rfl, ha, rfl, _, rfl, a, _, 3, .int c.2.2.2, rfl, rfl, ha, rfl, (by show 2 ≤ sizeLine; decide), fun u nu => ?_⟩
      have uC : u ≠ C := fun e => by rw [e, hC] at nu; cases nu
      have su := same_upd (o := .tup [.str c.1, .int c.2.2.2]) nu
      refine ⟨qs.map V.ref, su _ _ hC, by rw [List.length_map, sizeLine_eq]; omega, same_put (s9.trans su) nC, qs ++ [u], by rw [upd_same, List.map_append]; rfl, by rw [List.length_append, lq]; rfl, ?_⟩
      rw [List.take_add_one, gc, List.map_append]
      have so : Same (off H12 [C]) (off (upd (upd H12 u (.tup [.str c.1, .int c.2.2.2])) C (.lst (qs.map V.ref ++ [.ref u]))) [C]) := (sm_of su).trans (sm_wr List.mem_cons_self)
      refine Paired.snoc (paired_imp41 (fun _ _ h => same_tup so h) pq) (.inl (.inl ?_))
      rw [off_out (by simp [uC]), upd_ne uC]
      exact upd_same
    rintro H11 ⟨s9, qs, hC, lq, pq⟩
    rw [lcx, List.take_length] at pq
    refine ⟨C, qs, _, rfl, SqL.of hC, paired_imp41 (fun _ _ h => same_tup off_sub h) pq, fun G nG => ?_⟩
    have ckn := List.Pairwise.map (f := fun z : Str => (Sum.inr z : Key)) (R := (· ≠ ·)) (S := (· ≠ ·)) (fun a b n e => n (Sum.inr.inj e)) unc
    rw [List.map_map] at ckn
    rw [merge_nd41 (cs.map ckV) [] (by
      rw [List.nil_append, List.map_map]
      exact ckn), List.nil_append]
    have g2 : upd H11 G (.dK (cs.map ckV)) G = some (.dK (cs.map ckV)) := upd_same
    have s10 := s9.trans (same_upd (o := .dK (cs.map ckV)) nG)
    generalize upd H11 G (.dK (cs.map ckV)) = H12 at g2 s10 ⊢
    clear s9 hC pq nC nG
    refine ⟨Nat.zero_le _, fun Tn nT => ⟨_, _, rfl, ?_⟩⟩
    have hT : upd H12 Tn (.lst []) Tn = some (.lst []) := upd_same
    have nT0 := s10.free nT
    have GT : G ≠ Tn := fun e => by rw [← e, g2] at nT; cases nT
    have s11 := s10.trans (same_upd (o := .lst []) nT)
    have g2 := same_upd (o := .lst []) nT _ _ g2
    generalize upd H12 Tn (.lst []) = H13 at hT s11 g2 ⊢
    clear s10 nT
    obtain ⟨px, hpx, dpx⟩ : ∃ px, SqL K (off H [b]) PP px ∧ DpAll K (off H [b]) px (ps.map potD) := by
      cases dps with
      | lst h1 h2 => exact ⟨_, h1, h2⟩
    have lpx : px.length = ps.length := dpAll_map_len dpx
    have lps := pok.l
    refine ⟨_, rfl, PP, rfl, ⟨_, s11.seq (o0.seq hpx)⟩, ?_⟩
    refine for_it (walk_list (xs := px)) (fun i σ Hx => ∃ v6 tu, σ = [some (.ref b), some (.ref p), some (.ref PP), some (.ref N), some (.ref G), some (.ref Tn), v6, none, none, none, none, none, none, none, none] ∧ Same H Hx ∧ Hx G = some (.dK (cs.map ckV)) ∧ Hx Tn = some (.lst tu) ∧ DpAll K (off Hx [Tn]) tu ((psP (ps.take i) 0).map fun x => trD x.2)) ⟨_, _, rfl, s11, g2, hT, .nil⟩ (fun i σ Hx _ h => by obtain ⟨_, _, _, h, _⟩ := h; exact h.seq (o0.seq hpx)) ?_ ?_
    · clear s11 g2 hT
      rintro i x σ H14 H15 hi ⟨v6, tu, rfl, s11, g2, hT, dT⟩ ⟨rfl, gx⟩
      obtain ⟨ts, gts, dts⟩ := dpAll_map_at (dpAll_same (o0.trans s11) dpx) gx
      obtain ⟨pa, tx, rfl, hpa, dtx⟩ : ∃ pa tx, x = .ref pa ∧ SqL K H15 pa tx ∧ DpAll K H15 tx (ts.map trD) := by
        unfold potD at dts
        cases dts with
        | lst h1 h2 => exact ⟨_, _, rfl, h1, h2⟩
      have lT : tu.length = (psP (ps.take i) 0).length := by have := dpAll_map_len dT; exact this
      have lq := psP_len (ps := ps.take i) (i := 0) fun t ht => (pok.e t (List.mem_of_mem_take ht)).1
      have ltx : tx.length = ts.length := dpAll_map_len dtx
      have lts := (pok.e ts (List.mem_of_getElem? gts)).1
      simp only [gName, List.set]
      refine ⟨_, rfl, .inl ⟨rfl, _, SqL.of hT⟩, _, rfl, Tn, pa, tu, tx, rfl, rfl, hT, hpa, by rw [sizeLine_eq]; rw [List.length_take] at lq; omega, ?_⟩
      have Gx : G ≠ Tn := GT
      refine ⟨_, _, rfl, same_put s11 nT0, by rw [upd_ne Gx]; exact g2, upd_same, ?_⟩
      rw [psP_take gts, List.map_append]
      have e2 : (tsP i ts 0).map (fun x => trD x.2) = ts.map trD := by
        have := congrArg (List.map trD) (tsP_map (i := i) ts 0)
        rw [List.map_map] at this
        exact this
      rw [e2]
      have dT2 := dpAll_same (sm_wr (H := H15) (o := .lst (tu ++ tx)) (S := [Tn]) (List.mem_cons_self : Tn ∈ [Tn])) dT
      refine dpAll_app' dT2 ?_
      refine dpAll_same (sm_wr (by simp)) ?_
      refine dpAll_go (go_offL2 fun x hx => ?_) (noL_trs ts) dtx
      rw [List.mem_singleton.mp hx]; exact ⟨_, hT⟩
    rintro σ H14 ⟨v6, tu, rfl, s11, g2, hT, dT⟩
    rw [lpx, List.take_length] at dT
    have lq := psP_len (ps := ps) (i := 0) fun t ht => (pok.e t ht).1
    refine ⟨Nat.zero_le _, fun Fd nF => ?_⟩
    have nF0 := s11.free nF
    have FT : Fd ≠ Tn := fun e => by rw [e, hT] at nF; cases nF
    have FG : G ≠ Fd := fun e => by rw [← e, g2] at nF; cases nF
    have sF := same_upd (o := .lst []) nF
    have hF : upd H14 Fd (.lst []) Fd = some (.lst []) := upd_same
    have Bx0 : ∃ bs, H b = some (.lst bs) := by
      obtain ⟨_, _, _, e⟩ := B.bx
      exact ⟨_, e⟩
    obtain ⟨bs0, eb0⟩ := Bx0
    have bT : b ≠ Tn := fun e => by rw [e, nT0] at eb0; cases eb0
    have bF : b ≠ Fd := fun e => by rw [e, nF0] at eb0; cases eb0
    have bG : b ≠ G := fun e => by
      have := s11 _ _ eb0
      rw [e, g2] at this; cases this
    have hT := sF _ _ hT
    have g2 := sF _ _ g2
    have dT0 : DpAll K (off (upd H14 Fd (.lst [])) [Fd, Tn, b]) tu ((psP ps 0).map fun x => trD x.2) := by
      refine dpAll_go (go_offL2 fun x hx => ?_) (noL_trs2 _) (dpAll_same (off_sub.trans sF) dT)
      simp only [List.mem_cons, List.not_mem_nil, or_false] at hx
      rcases hx with rfl | rfl | rfl
      · exact ⟨_, hF⟩
      · exact ⟨_, hT⟩
      · exact ⟨_, sF _ _ (s11 _ _ eb0)⟩
    have sc : Sm [b] H (upd H14 Fd (.lst [])) := (sm_of (S := [b]) s11).trans (sm_of sF)
    have B := (B.same s11).same sF
    have eN : off H [b] N = some (.lst (ys.map V.str)) := fN
    have NT : N ≠ Tn := fun e => by rw [e] at fN; have := at_off fN; rw [nT0] at this; cases this
    have NF : N ≠ Fd := fun e => by rw [e] at fN; have := at_off fN; rw [nF0] at this; cases this
    have psn := psP_nd (ps := ps) (i := 0)
    have hN : upd H14 Fd (.lst []) N = some (.lst (ys.map V.str)) := sF _ _ (s11 _ _ (at_off fN))
    generalize upd H14 Fd (.lst []) = H15 at hF hT g2 dT0 sc B hN ⊢
    clear sF nF dT s11
    simp only [gName, List.set]
    refine ⟨_, rfl, N, rfl, ⟨_, SqL.of hN⟩, ?_⟩
    refine for_it (walk_list (xs := ys.map V.str)) (fun i σ Hx => ∃ v8 v9 va vb vc vd tu fu rest tms pos, σ = [some (.ref b), some (.ref p), some (.ref PP), some (.ref N), some (.ref G), some (.ref Tn), v6, some (.ref Fd), v8, v9, va, vb, vc, vd, none] ∧ Bp Hx b (n + 3 * i) ∧ Sm [b] H Hx ∧ Hx G = some (.dK (cs.map ckV)) ∧ Hx Tn = some (.lst tu) ∧ Hx Fd = some (.lst fu) ∧ Hx N = some (.lst (ys.map V.str)) ∧ DpAll K (off Hx [Fd, Tn, b]) tu (List.map (fun x : (Nat × Nat) × Trn => trD x.2) rest) ∧ DpAll K (off Hx [Fd, Tn, b]) fu (List.map tmD tms) ∧ Paired (OwnT cs ps) tms pos ∧ (pos ++ List.map (fun x : (Nat × Nat) × Trn => x.1) rest).Nodup ∧ (∀ x ∈ rest, x ∈ psP ps 0) ∧ (tms.map fun t => t.1).Sublist (ys.take i) ∧ (∀ t ∈ tms, TmOk t ∧ (∃ c ∈ cs, c.1 = t.2.1) ∧ t.2.2.1 ≤ t.2.2.2) ∧ rest.length ≤ 72)
      ⟨_, _, _, _, _, _, tu, [], psP ps 0, [], [], rfl, B.mono (by omega), sc, g2, hT, hF, hN, dT0, .nil, .nil, by rw [List.nil_append]; exact psn, fun x h => h, List.Sublist.slnil, (fun t h => (List.not_mem_nil h).elim), by omega⟩ (fun i σ Hx _ h => by obtain ⟨_, _, _, _, _, _, _, _, _, _, _, _, _, _, _, _, _, h, _⟩ := h; exact SqL.of h) ?_ ?_
    · clear hT hF dT0 sc B hN g2
      rintro i x σ H16 H17 hi ⟨v8, v9, va, vb, vc, vd, tu, fu, rest, tms, pos, rfl, B, sc, g2, hT, hF, hN, dT, dF, pp, ndp, mem, sub, tok, lr⟩ ⟨rfl, gx⟩
      rw [List.getElem?_map] at gx
      obtain ⟨z, gz, rfl⟩ := Option.map_eq_some_iff.mp gx
      have hi12 : i < ys.length := (List.getElem?_eq_some_iff.mp gz).1
      simp only [gName, List.set]
      have trk : ∀ t ∈ rest.map (fun x => x.2), TrOk cs t := fun t ht => by
        obtain ⟨x, hx, rfl⟩ := List.mem_map.mp ht
        obtain ⟨a, b2, ts, g1, gg, _⟩ := psP_mem (mem x hx)
        exact (pok.e ts (List.mem_of_getElem? g1)).2 _ (List.mem_of_getElem? gg)
      have shR : SeqAt.shaped (potD (rest.map fun x => x.2)) = true := by
        have b0 := ((bds_map (f := trD) fun t ht => bd_tr pal.wd (trk t ht)).mono (Nat.le_refl _) (Nat.le_refl _) (Nat.le_refl _) (Nat.le_refl _) (show _ ≤ 100 by decide)).list (show ((rest.map fun x => x.2).map trD).length ≤ 100 by rw [List.length_map, List.length_map]; omega)
        exact bd_shaped b0 (by decide)
      have shN : SeqAt.shaped (.list []) = true := rfl
      have em : (rest.map fun x => x.2).map trD = rest.map fun x => trD x.2 := by rw [List.map_map]; rfl
      have ltu : tu.length = rest.length := by have := dpAll_map_len dT; exact this
      refine ⟨_, rfl, Nat.zero_le _, fun l nl => ?_⟩
      have sl := same_upd (o := .lst []) nl
      have fl : upd H17 l (.lst []) l = some (.lst []) := upd_same
      have B := B.same sl
      have sc := sc.trans (sm_of sl)
      have g2 := sl _ _ g2
      have hT := sl _ _ hT
      have hF := sl _ _ hF
      have hN := sl _ _ hN
      have dT := dpAll_same (sm_of sl) dT
      have dF := dpAll_same (sm_of sl) dF
      generalize upd H17 l (.lst []) = H18 at fl B sc g2 hT hF hN dT dF ⊢
      clear sl nl
      refine ⟨potD (rest.map fun x => x.2), .list [], .lst (SqL.of hT) (by rw [em]; exact dpAll_same off_sub dT), .lst (SqL.of fl) .nil, shR, shN, _, rfl, ?_⟩
      rw [show PyData.eqv (potD (rest.map fun x => x.2)) (.list []) = (rest.map fun x => x.2).isEmpty from eqv_nil trD _]
      clear fl shR
      by_cases h0 : rest = []
      · subst h0
        refine iteF ?_
        exact ⟨_, _, _, _, _, _, tu, fu, [], tms, pos, rfl, B.mono (by omega), sc, g2, hT, hF, hN, dT, dF, pp, ndp, mem, sub.trans (by rw [List.take_add_one]; exact List.sublist_append_left _ _), tok, lr⟩
      have ne : (rest.map fun x => x.2).isEmpty = false := by
        cases rest with
        | nil => exact absurd rfl h0
        | cons _ _ => rfl
      rw [ne]
      have pos0 : 0 < rest.length := List.length_pos_iff.mpr h0
      refine iteT ?_
      refine ⟨_, rfl, .inl ⟨rfl, _, SqL.of hT⟩, _, rfl, _, rfl, _, _, rfl, .inl ⟨_, SqL.of hT, rfl⟩, b, _, _, rfl, (by omega), (by omega), B, by omega, fun H19 r r0 r1 B9 s9 => ?_⟩
      have B := B9
      have sc := sc.trans s9
      have g2 := sm1_at s9 bG.symm g2
      have hT := sm1_at s9 bT.symm hT
      have hF := sm1_at s9 bF.symm hF
      have Nb : N ≠ b := fun e => off_mem fN (by rw [e]; exact List.mem_cons_self)
      have hN := sm1_at s9 Nb hN
      have dT := dpAll_same (sm_one (S := [Fd, Tn, b]) (by simp) s9) dT
      have dF := dpAll_same (sm_one (S := [Fd, Tn, b]) (by simp) s9) dF
      clear s9
      obtain ⟨k, rfl⟩ : ∃ k : Nat, r = (k : Int) := ⟨r.toNat, by omega⟩
      have lk : k < tu.length := by omega
      obtain ⟨vt, gvt⟩ : ∃ vt, tu[k]? = some vt := ⟨_, List.getElem?_eq_getElem lk⟩
      obtain ⟨x, gx, dx⟩ := dpAll_map_at dT gvt
      obtain ⟨ta, rfl, hta⟩ := tr_dp dx
      refine ⟨Tn, tu, (k : Int), k, _, rfl, rfl, hT, by omega, by omega, (ixN_seq (Evl.ixN_nat lk)).1, gvt, ?_⟩
      have sw := sm_wr (H := H19) (o := .lst (tu.eraseIdx k)) (S := [Fd, Tn, b]) (by simp : Tn ∈ [Fd, Tn, b])
      have hta := same_tup (sw.trans off_sub) hta
      have er : rest = rest.take k ++ x :: rest.drop (k + 1) := by
        have lkr : k < rest.length := by omega
        rw [List.getElem?_eq_getElem lkr] at gx
        rw [← Option.some.inj gx, List.getElem_cons_drop, List.take_append_drop]
      have dT : DpAll K (off (upd H19 Tn (.lst (tu.eraseIdx k))) [Fd, Tn, b]) (tu.eraseIdx k) (List.map (fun x : (Nat × Nat) × Trn => trD x.2) (rest.take k ++ rest.drop (k + 1))) := by
        have ee : tu.eraseIdx k = tu.take k ++ tu.drop (k + 1) := List.eraseIdx_eq_take_drop_succ ..
        have zz := dpAll_same sw (dpAll_app' (dpAll_take k dT) (dpAll_drop (k + 1) dT))
        rw [← ee] at zz
        rw [List.map_append, List.map_take, List.map_drop]
        exact zz
      have dF := dpAll_same sw dF
      have B := B.wr (o := .lst (tu.eraseIdx k)) bT.symm
      have sc := smp sc nT0 (o := .lst (tu.eraseIdx k))
      have g2 : upd H19 Tn (.lst (tu.eraseIdx k)) G = _ := (upd_ne GT).trans g2
      have hF : upd H19 Tn (.lst (tu.eraseIdx k)) Fd = _ := (upd_ne FT).trans hF
      have hN : upd H19 Tn (.lst (tu.eraseIdx k)) N = _ := (upd_ne NT).trans hN
      have hT : upd H19 Tn (.lst (tu.eraseIdx k)) Tn = some (.lst (tu.eraseIdx k)) := upd_same
      generalize upd H19 Tn (.lst (tu.eraseIdx k)) = H20 at hta dT dF B sc g2 hF hN hT ⊢
      clear sw dx B9
      refine ⟨ta, _, rfl, hta, rfl, _, _, rfl, _, _, rfl, _, _, rfl, _, _, rfl, rfl, ?_⟩
      simp only [gName, List.set]
      have xm := mem x (by rw [er]; simp)
      obtain ⟨pa2, pb2, ts, p1, p2, pe⟩ := psP_mem xm
      have tk := (pok.e ts (List.mem_of_getElem? p1)).2 _ (List.mem_of_getElem? p2)
      obtain ⟨c, hc2, ec, ez⟩ := colF_ok (cs := cs) (z := x.2.2.1) (by obtain ⟨c, h1, h2⟩ := tk.c; exact ⟨c, h1, h2⟩)
      have ch := pal.ch c hc2
      have ka := tk.a
      have kb := tk.b
      refine ⟨_, rfl, _, rfl, _, rfl, _, rfl, _, _, rfl, rfl, b, _, _, rfl, (by omega), (by omega), B, by omega, fun H21 r2 r20 r21 B9 s9 => ⟨_, _, rfl, rfl, ?_⟩⟩
      have B := B9
      have sc := sc.trans s9
      have g2 := sm1_at s9 bG.symm g2
      have hT := sm1_at s9 bT.symm hT
      have hF := sm1_at s9 bF.symm hF
      have hN := sm1_at s9 Nb hN
      have dT := dpAll_same (sm_one (S := [Fd, Tn, b]) (by simp) s9) dT
      have dF := dpAll_same (sm_one (S := [Fd, Tn, b]) (by simp) s9) dF
      clear s9 hta
      simp only [gName, List.set]
      have dg2 : DGet H21 G (.str x.2.2.1) (some (.int c.2.2.2)) := by
        have := DGet.k (k := .inr x.2.2.1) g2
        rw [val_map41 (g := ckV) ckn hc2 (by show Sum.inr c.1 = _; rw [ez])] at this
        exact this
      obtain ⟨fi, efi⟩ : ∃ fi, fi = x.2.2.2.1 + r2 := ⟨_, rfl⟩
      rw [← efi]
      obtain ⟨m, em⟩ : ∃ m, m = (if c.2.2.2 < x.2.2.2.2 - fi then c.2.2.2 else x.2.2.2.2 - fi) := ⟨_, rfl⟩
      have m1 : 1 ≤ m ∧ m ≤ 1000 ∧ m ≤ c.2.2.2 ∧ m ≤ x.2.2.2.2 - fi := by
        rw [em]
        split <;> omega
      refine ⟨_, rfl, .inl ⟨rfl, _, SqL.of hF⟩, _, rfl, _, rfl, _, rfl, _, rfl, _, _, rfl, rfl, _, rfl, _, rfl, _, rfl, _, _, rfl, rfl, _, rfl, _, rfl, G, .int c.2.2.2, rfl, dg2, _, _, rfl, b, m, _, (by rw [em]; rfl), (by omega), (by omega), B, by omega, fun H22 r3 r30 r31 B9 s9 => ⟨_, _, rfl, rfl, (by show 4 ≤ sizeLine; decide), fun u nu => ?_⟩⟩
      have B := B9
      have sc := sc.trans s9
      have g2 := sm1_at s9 bG.symm g2
      have hT := sm1_at s9 bT.symm hT
      have hF := sm1_at s9 bF.symm hF
      have hN := sm1_at s9 Nb hN
      have dT := dpAll_same (sm_one (S := [Fd, Tn, b]) (by simp) s9) dT
      have dF := dpAll_same (sm_one (S := [Fd, Tn, b]) (by simp) s9) dF
      clear s9 dg2
      have su := same_upd (o := .tup [.str z, .str x.2.2.1, .int fi, .int (fi + 1 + r3)]) nu
      have lvF : Live [Fd, Tn, b] H22 := fun y hy e => by
        simp only [List.mem_cons, List.not_mem_nil, or_false] at hy
        rcases hy with rfl | rfl | rfl
        · rw [hF] at e; cases e
        · rw [hT] at e; cases e
        · obtain ⟨_, _, _, e2⟩ := B.bx
          rw [e2] at e; cases e
      have fu2 := off_new (o := .tup [.str z, .str x.2.2.1, .int fi, .int (fi + 1 + r3)]) lvF nu
      have B := B.same su
      have sc := sc.trans (sm_of su)
      have g2 := su _ _ g2
      have hT := su _ _ hT
      have hF := su _ _ hF
      have hN := su _ _ hN
      have dT := dpAll_same (sm_of su) dT
      have dF := dpAll_same (sm_of su) dF
      generalize upd H22 u (.tup [.str z, .str x.2.2.1, .int fi, .int (fi + 1 + r3)]) = H23 at fu2 B sc g2 hT hF hN dT dF ⊢
      clear su nu lvF
      have lfu : fu.length = tms.length := by have := dpAll_map_len dF; exact this
      have ltm : tms.length ≤ i := by
        have := sub.length_le
        rw [List.length_map, List.length_take] at this
        omega
      refine ⟨Fd, fu, _, rfl, rfl, hF, by rw [sizeLine_eq]; omega, ?_⟩
      have sw := sm_wr (H := H23) (o := .lst (fu ++ [.ref u])) (S := [Fd, Tn, b]) (by simp : Fd ∈ [Fd, Tn, b])
      refine ⟨_, _, _, _, _, _, tu.eraseIdx k, fu ++ [.ref u], rest.take k ++ rest.drop (k + 1), tms ++ [(z, x.2.2.1, fi, fi + 1 + r3)], pos ++ [x.1], rfl, (B.wr bF.symm).mono (by omega), smp sc nF0, (upd_ne FG).trans g2, (upd_ne FT.symm).trans hT, upd_same, (upd_ne NF).trans hN, dpAll_same sw dT, ?_, ?_, ?_, ?_, ?_, ?_, ?_⟩
      · rw [List.map_append]
        exact dpAll_same sw (dpAll_app' dF (.cons (.tup (.inl (.inl fu2)) (.cons (.str _) (.cons (.str _) (.cons (.int _) (.cons (.int _) .nil))))) .nil))
      · refine Paired.snoc pp ⟨ts, x.2, c, ?_, ?_, rfl, ec, ?_, ?_, ?_⟩
        · rw [pe, Nat.zero_add]; exact p1
        · rw [pe]; exact p2
        · show x.2.2.2.1 ≤ fi; omega
        · show fi + 1 + r3 ≤ x.2.2.2.2; omega
        · show fi + 1 + r3 - fi ≤ c.2.2.2; omega
      · have pr : (pos ++ List.map (fun x : (Nat × Nat) × Trn => x.1) rest).Perm ((pos ++ [x.1]) ++ List.map (fun x : (Nat × Nat) × Trn => x.1) (rest.take k ++ rest.drop (k + 1))) := by
          conv => lhs; rw [er]
          rw [List.append_assoc, List.map_append, List.map_append]
          exact List.perm_middle.append_left pos
        exact pr.nodup_iff.mp ndp
      · intro y hy
        refine mem y ?_
        rcases List.mem_append.mp hy with q2 | q2
        · exact List.mem_of_mem_take q2
        · exact List.mem_of_mem_drop q2
      · rw [List.take_add_one, gz, List.map_append]
        exact sub.append (List.Sublist.refl _)
      · intro t ht
        rcases List.mem_append.mp ht with q2 | q2
        · exact tok t q2
        · rw [List.mem_singleton.mp q2]
          exact ⟨⟨ny z (List.mem_of_getElem? gz), by rw [← ez]; exact pal.wd c hc2, ⟨by show 0 ≤ fi; omega, by show fi ≤ 60; omega⟩, ⟨by show 0 ≤ fi + 1 + r3; omega, by show fi + 1 + r3 ≤ 60; omega⟩⟩, ⟨c, hc2, ez⟩, by show fi ≤ fi + 1 + r3; omega⟩
      · rw [List.length_append, List.length_take, List.length_drop]; omega
    · rintro σ H16 ⟨v8, v9, va, vb, vc, vd, tu, fu, rest, tms, pos, rfl, B, sc, g2, hT, hF, hN, dT, dF, pp, ndp, mem, sub, tok, lr⟩
      rw [List.length_map, List.take_length] at sub
      refine ⟨_, rfl, ?_⟩
      have lt : tms.length ≤ 12 := by
        have := sub.length_le
        rw [List.length_map] at this
        omega
      exact q _ Fd fu tms pos (B.mono (by rw [List.length_map]; omega)) sc nF0 hF (dpAll_same (off_mono (by simp)) dF) lt (fun t ht => ⟨(tok t ht).1, (tok t ht).2.1⟩) (yn.sublist sub) ⟨(List.nodup_append.mp ndp).1, pp⟩ fun t ht => (tok t ht).2.2

end
end Pot

namespace Pot
open PySem PySem.Spec PyProof.Rows L2
section
variable {P : Program} {w : World} {K : PySem.W.Frag} {mg : Str → Option Value} {base : Heap}
abbrev s__law_told_right : Stmt := topS 35
def n__law_told_right : List Str := ["_law_palette_here", "_law_pots_here", "_law_teams", "_law_found", "_law_hour", "_law_colour", "_law_hours", "_law_offers", "_law_row"]
theorem sc__law_told_right : FnScope n__law_told_right ["_law_palette_here", "_law_pots_here", "_law_teams", "_law_found"] (defScope s__law_told_right) := ⟨rfl, rfl, rfl, by decide +kernel, rfl, by decide +kernel, by decide +kernel⟩
/-- what worked_by tells, of one heap -/
def TdR (K : PySem.W.Frag) (cs : List Col) (ps : List (List Trn)) (tms : List Tm) (H : Hp) (t : Addr) : Prop := (∃ (R : Addr) (us : List V) (n : Nat) (zs : List Str) (rs : List Wk), H t = some (.tup [.ref R, .non]) ∧ H R = some (.lst us) ∧ DpAll K H us ((rs.mergeSort (PySem.W.dataLe false wkD)).map wkD) ∧ rs.length ≤ 24000 ∧ AllR cs ps tms n zs rs) ∨
  ∃ (h : Nat) (z : Str) (S : List Nat) (x L : Addr), H t = some (.tup [.non, .ref x]) ∧ H x = some (.tup [.int (h : Nat), .str z, .ref L]) ∧ H L = some (.lst ((natSort S).map nV)) ∧ LkR (ofsF cs ps z) (cwL z tms 60) h S ∧ ∃ c ∈ cs, c.1 = z
def spTR (K : PySem.W.Frag) : Sp := fun vs H Q _ => ∃ (v : V) (PP A t : Addr) (xs : List V) (cs : List Col) (ws : List Wsh) (ps : List (List Trn)) (tms : List Tm), vs = [v, .ref PP, .ref A, .ref t] ∧ Dp K H v (palD cs ws) ∧ PalE cs ws ∧ (cs.map fun c => c.1).Nodup ∧ Dp K H (.ref PP) (potsD ps) ∧ PotsOk cs ps ∧ SqL K H A xs ∧ DpAll K H xs (tms.map tmD) ∧ tms.length ≤ 20 ∧ (∀ t ∈ tms, TmOk t ∧ ∃ c ∈ cs, c.1 = t.2.1) ∧ (tms.map fun t => t.1).Nodup ∧ TdR K cs ps tms H t ∧ ∀ H', Same H H' → Q (.bl true) H'
set_option maxHeartbeats 4000000 in
theorem ok_tr {f : Addr} {fd : FuncData} {k : Nat} (F : Fun K "_law_told_right" "_law_told_right" s__law_told_right f fd) (T : Txt mg) (c__law_is_work : Cl P w K mg base (k + 2) "_law_is_work" (spIsW K)) (c__law_turns_of : Cl P w K mg base (k + 1) "_law_turns_of" (spOffers K)) (c__law_wants : Cl P w K mg base (k + 1) "_law_wants" (spWants K)) (c__law_is_lack : Cl P w K mg base (k + 5) "_law_is_lack" (spLack K)) : FnOk P w K mg base CX0 (k + 6) f fd ["_law_palette_here", "_law_pots_here", "_law_teams", "_law_found"] (spTR K) := by
  refine F.ok sc__law_told_right (fun vs H Q E h => ?_) (fun cdv A outer s H vs Q E hr h => ?_)
  · obtain ⟨v, PP, A, t, xs, cs, ws, ps, tms, rfl, _⟩ := h
    rfl
  · obtain ⟨v, PP, B, t, xs, cs, ws, ps, tms, rfl, dv, pal, unc, dps, pok, hs, da, lt, tok, und, td, q⟩ := h
    have nd := sc__law_told_right.nd
    have hu64 := hr.units
    have hu65 : (A.deeper (envOfC (Str.ofString "_law_told_right") (defScope s__law_told_right) s.heap.objs.size f cdv)).units + 65 < cLine := by have := hr.un; omega
    refine ⟨_, (pss_cons (ps_if ((pw_or (pt_not (pt_val (pe_callB (kc_isi (K := K)) (by rfl) T.isinstance (by decide +kernel) (pa_cons (pv 3) (pa_cons (pe_bltn (v := .ty "tuple") (by rfl) T.tuple (by decide +kernel) rfl) pa_nil))))) (pw_or1 (pt_cmpR op_ne (pe_callB (kc_len (K := K)) (by rfl) T.len PySem.boot_len (pa_cons (pv 3) pa_nil)) pe_int (nomark _))))).pt
          pss_never
          pss_nil)
      (pss_cons (ps_if (pt_cmpR op_isN (pe_ix (kx_tup (K := K)) (pv 3) pe_int (fun _ _ => rfl)) pe_non (nomark _))
          (pss_one (ps_ret (pe_cl c__law_is_work hr (by omega) (by rfl) (pa_cons (pv 0) (pa_cons (pv 1) (pa_cons (pv 2) (pa_cons (pe_ix (kx_tup (K := K)) (pv 3) pe_int (fun _ _ => rfl)) pa_nil)))))))
          pss_nil)
      (pss_cons (ps_if ((pw_or (pt_cmpR op_notN (pe_ix (kx_tup (K := K)) (pv 3) pe_int (fun _ _ => rfl)) pe_non (nomark _)) (pw_or (pt_not (pt_val (pe_callB (kc_isi (K := K)) (by rfl) T.isinstance (by decide +kernel) (pa_cons (pe_ix (kx_tup (K := K)) (pv 3) pe_int (fun _ _ => rfl)) (pa_cons (pe_bltn (v := .ty "tuple") (by rfl) T.tuple (by decide +kernel) rfl) pa_nil))))) (pw_or1 (pt_cmpR op_ne (pe_callB (kc_len (K := K)) (by rfl) T.len PySem.boot_len (pa_cons (pe_ix (kx_tup (K := K)) (pv 3) pe_int (fun _ _ => rfl)) pa_nil)) pe_int (nomark _)))))).pt
          pss_never
          pss_nil)
      (pss_cons (ps_asg (pe_ix (kx_tup (K := K)) (pv 3) pe_int (fun _ _ => rfl)) (kg_tup (K := K) (n := 3) (pgs_cons (pg_name (i := 4) nd rfl (.inl rfl)) (pgs_cons (pg_name (i := 5) nd rfl (.inl rfl)) (pgs_cons (pg_name (i := 6) nd rfl (.inl rfl)) pgs_nil)))))
      (pss_cons (ps_if (pt_cmpR (ko_notInD (K := K) hu65) (pv 5) (pe_lc (own := [("_law_row", 8)]) rfl nd (ki_tup (K := K) (pe_ix (kx_tup (K := K)) (pv 0) pe_int (fun _ _ => rfl))) (blkOk_by (N := n__law_told_right) (sc := defScope s__law_told_right) (by decide +kernel)) (fun _ _ _ _ _ => (pg_name (i := 8) nd rfl (.inl rfl))) (fun _ _ _ _ _ => pts_nil) (fun _ _ _ _ _ => (pe_ix (kx_tup (K := K)) (pv 8) pe_int (fun _ _ => rfl)))) rfl)
          pss_never
          pss_nil)
      (pss_cons (ps_setLc (i := 7) (own := [("_law_row", 8)]) rfl nd rfl rfl (sw_true rfl rfl rfl (by decide +kernel)) (ki_list (K := K) (pe_cl c__law_turns_of hr (by omega) (by rfl) (pa_cons (pv 0) (pa_cons (pv 1) (pa_cons (pv 5) pa_nil))))) (blkOk_by (N := n__law_told_right) (sc := defScope s__law_told_right) (by decide +kernel)) (fun _ _ _ _ _ => (pg_name (i := 8) nd rfl (.inl rfl))) (fun _ _ _ _ _ => pts_nil) (fun _ _ _ _ _ => (pe_slice (kl_tup (K := K)) (pv 8) (po_some pe_int) po_none)))
      (pss_one (ps_ret (pe_cl c__law_is_lack hr (by omega) (by rfl) (pa_cons (pv 7) (pa_cons (pe_cl c__law_wants hr (by omega) (by rfl) (pa_cons (pv 2) (pa_cons (pv 5) (pa_cons pe_int pa_nil)))) (pa_cons (pe_tup (pa_cons (pv 4) (pa_cons (pv 6) pa_nil))) pa_nil)))))))))))), ?_⟩
    rcases td with ⟨R, us, n, zs, rs, ht, hR, dR, lr, AR⟩ | ⟨h, z, S, x, L, ht, hx, hL, LK, hcz⟩
    · have dL0 : Dp K H (.ref R) (.list ((rs.mergeSort (PySem.W.dataLe false wkD)).map wkD)) := .lst (SqL.of hR) dR
      have dT : Dp K H (.ref t) (.tuple [.list ((rs.mergeSort (PySem.W.dataLe false wkD)).map wkD), .none]) := .tup (.inl (.inl ht)) (.cons dL0 (.cons .non .nil))
      refine ⟨_, rfl, _, .ty _, _, _, isTupD _, rfl, .ty _, tyx_dp dT, kit_tup dT, _, rfl, iteF ⟨_, rfl, _, _, rfl, .inr ⟨_, .inl (.inl ht), rfl⟩, rfl, _, rfl, iteF ?_⟩⟩
      refine ⟨_, rfl, t, _, 1, .non, rfl, rfl, .inl (.inl ht), rfl, rfl, _, rfl, iteT ?_⟩
      exact ⟨_, rfl, _, rfl, _, rfl, _, rfl, t, _, 0, .ref R, rfl, rfl, .inl (.inl ht), rfl, v, PP, B, R, xs, us, cs, ws, ps, tms, n, zs, rs, rfl, dv, pal, dps, pok, hs, da, lt, tok, und, unc, SqL.of hR, dR, AR, lr, fun H' s => q H' s⟩
    · have s4 : Same H H := Same.refl _
      obtain ⟨c, hc, ec, ez⟩ := colF_ok hcz
      have ez : c.1 = z := ez
      subst ez
      have eL : (natSort S).map nV = ((natSort S).map Int.ofNat).map V.int := by rw [List.map_map]; rfl
      have dL : Dp K H (.ref L) (.list (((natSort S).map Int.ofNat).map PyData.int)) := .lst (SqL.of (by rw [← eL]; exact hL)) (dp_ints _)
      have dx : Dp K H (.ref x) (.tuple [.int (h : Nat), .str c.1, .list (((natSort S).map Int.ofNat).map PyData.int)]) := .tup (.inl (.inl hx)) (.cons (.int _) (.cons (.str _) (.cons dL .nil)))
      have dT : Dp K H (.ref t) (.tuple [.none, .tuple [.int (h : Nat), .str c.1, .list (((natSort S).map Int.ofNat).map PyData.int)]]) := .tup (.inl (.inl ht)) (.cons .non (.cons dx .nil))
      refine ⟨_, rfl, _, .ty _, _, _, isTupD _, rfl, .ty _, tyx_dp dT, kit_tup dT, _, rfl, iteF ⟨_, rfl, _, _, rfl, .inr ⟨_, .inl (.inl ht), rfl⟩, rfl, _, rfl, iteF ?_⟩⟩
      refine ⟨_, rfl, t, _, 1, .ref x, rfl, rfl, .inl (.inl ht), rfl, rfl, _, rfl, iteF ?_⟩
      refine ⟨_, rfl, t, _, 0, .non, rfl, rfl, .inl (.inl ht), rfl, rfl, _, rfl, iteF ?_⟩
      refine ⟨_, rfl, t, _, 1, .ref x, rfl, rfl, .inl (.inl ht), rfl, _, .ty _, _, _, isTupD _, rfl, .ty _, tyx_dp dx, kit_tup dx, _, rfl, iteF ?_⟩
      refine ⟨_, rfl, t, _, 1, .ref x, rfl, rfl, .inl (.inl ht), rfl, _, _, rfl, .inr ⟨_, .inl (.inl hx), rfl⟩, rfl, _, rfl, iteF ?_⟩
      refine ⟨_, rfl, t, _, 1, .ref x, rfl, rfl, .inl (.inl ht), rfl, x, _, rfl, .inl (.inl hx), rfl, _, _, rfl, _, _, rfl, _, _, rfl, rfl, ?_⟩
      have dv0 := dv
      obtain ⟨p, ca, wa, cx, cy, ev, hp, hcx, hxx, hw, hy⟩ := pal_dp dv
      subst ev
      have lcx : cx.length = cs.length := dpAll_map_len hxx
      have lc6 := pal.le
      have sk : ∀ c ∈ cs, PyData.strOk c.1 = true := fun c hc => strOk_len fun y hy => by have := (pal.wd c hc).ascii y hy; omega
      refine ⟨_, rfl, _, rfl, p, _, 0, .ref ca, rfl, rfl, hp, rfl, ca, rfl, ⟨_, hcx⟩, fun C nC => ?_⟩
      refine lc_it (walk_tup (xs := cx)) (PvL H C fun i => ((cs.map fun c => c.1).take i).map V.str) (pv_start nC rfl) (fun i H2 _ pv => same_tup pv.1 hcx) ?_ ?_
      · rintro i y H2 H3 hi pv ⟨rfl, gy⟩
        obtain ⟨c2, gc2, dc2⟩ := dpAll_map_at (dpAll_same pv.1 hxx) gy
        obtain ⟨a, rfl, ha⟩ := col_dp dc2
        refine ⟨rfl, tYes_at ?_⟩
        rw [if_pos rfl]
        refine ⟨_, rfl, a, _, 0, .str c2.1, rfl, rfl, ha, rfl, ?_⟩
        exact pv_put nC pv (Same.refl _) (take_map V.str (by rw [List.getElem?_map, gc2]; rfl)) (by rw [List.length_map, List.length_take, List.length_map, sizeLine_eq]; omega)
      intro H2 pv
      obtain ⟨s2, hC⟩ := pv_end pv (take_all (by rw [List.length_map]; omega))
      clear pv
      have dn : ∀ l : List Str, DpAll K H2 (l.map V.str) (l.map PyData.str) := fun l => by
        induction l with
        | nil => exact .nil
        | cons x l ih => exact .cons (.str x) ih
      refine ⟨.str c.1, (cs.map fun c => c.1).map PyData.str, .str _, .lst (SqL.of hC) (dn _), ?_, ?_, _, rfl, ?_⟩
      · show (PyData.strOk c.1 && decide (0 ≤ 64)) = true
        rw [sk c hc]; rfl
      · have h1 : ∀ l : List Str, (∀ z ∈ l, PyData.strOk z = true) → PyData.canLayAll0 (l.map PyData.str) = true := by
          intro l
          induction l with
          | nil => intro _; rfl
          | cons r l ih =>
            intro h
            show (PyData.strOk r && PyData.canLayAll0 (l.map PyData.str)) = true
            rw [ih fun z hz => h z (List.mem_cons_of_mem _ hz), h r List.mem_cons_self]; rfl
        have h2 : PyData.depthAll ((cs.map fun c => c.1).map PyData.str) ≤ 0 := depthAll_map fun r _ => Nat.le_refl _
        show (PyData.canLayAll0 ((cs.map fun c => c.1).map PyData.str) && decide (PyData.depthAll ((cs.map fun c => c.1).map PyData.str) + 1 ≤ 64)) = true
        rw [h1 _ (fun z hz => by obtain ⟨c2, h3, rfl⟩ := List.mem_map.mp hz; exact sk c2 h3), decide_eq_true (by omega)]; rfl
      have ea : (((cs.map fun c => c.1).map PyData.str).any fun z => PyData.eqv z (.str c.1)) = true := by
        rw [List.any_eq_true]
        exact ⟨.str c.1, List.mem_map.mpr ⟨c.1, List.mem_map.mpr ⟨c, hc, rfl⟩, rfl⟩, by simp [PyData.eqv]⟩
      rw [ea]
      refine iteF ?_
      have s4 := s4.trans s2
      have dL := dp_same s2 dL
      clear dn ea nC hC
      have eos : ofsF cs ps c.1 = (selP c.2.2.2 c.1 ps 0).map fun o => o.2.2 := by unfold ofsF; rw [ec]
      have los : (selP c.2.2.2 c.1 ps 0).length ≤ 100 := by have := ofs_len (z := c.1) pok; rw [eos, List.length_map] at this; exact this
      have gn := ofs_gn (ps := ps) (z := c.1) pal
      have wb := cwL_bd (z := c.1) (n := 60) lt
      have sok := served_ok (ws := cwL c.1 tms 60) (fun z hz => (wb z hz).1) gn
      have lws := cwL_len c.1 tms 60
      refine ⟨_, rfl, _, rfl, _, rfl, PP, .ref p, cs, ws, ps, c, rfl, dp_same s4 dv0, dp_same s4 dps, pok, (by have := pal.le; omega), hc, ec, fun H10 O us sO nO hO dO => ?_⟩
      have lus : us.length = (selP c.2.2.2 c.1 ps 0).length := dpAll_map_len dO
      refine ⟨O, rfl, ⟨_, SqL.of hO⟩, fun D3 nD3 => ?_⟩
      refine lc_it (walk_list (xs := us)) (fun j Hj => Same H10 Hj ∧ ∃ zs3, Hj D3 = some (.lst zs3) ∧ zs3.length = j ∧ DpAll K (off Hj [D3]) zs3 ((((selP c.2.2.2 c.1 ps 0).take j).map fun o => o.2.2).map offD)) ⟨same_upd nD3, [], upd_same, rfl, .nil⟩ (fun j Hj _ h => SqL.of (h.1 _ _ hO)) ?_ ?_
      · rintro j x H11 H12 hj ⟨s11, zs3, hz, lz, dz⟩ ⟨rfl, gx⟩
        obtain ⟨o, go, dpo⟩ := dpAll_map_at dO gx
        obtain ⟨ao, rfl, hT⟩ := o5_dp dpo
        have hT := same_tup s11 hT
        refine ⟨rfl, tYes_at ?_⟩
        rw [if_pos rfl]
        refine ⟨_, rfl, _, rfl, ao, _, rfl, hT, fun h => absurd h.1 (show ¬ (2 : Nat) = 0 by decide), fun _ u nu => ?_⟩
        have ecut : cutV [V.int (o.1 : Nat), .int (o.2.1 : Nat), .int o.2.2.1, .int o.2.2.2.1, .int o.2.2.2.2] (some 2) none = [.int o.2.2.1, .int o.2.2.2.1, .int o.2.2.2.2] := rfl
        rw [ecut]
        have lv1 : Live [D3] H12 := fun x hx e => by rw [List.mem_singleton.mp hx, hz] at e; cases e
        have gu := off_new (o := .tup [.int o.2.2.1, .int o.2.2.2.1, .int o.2.2.2.2]) lv1 nu
        have dz := dpAll_same (sm_put (S := [D3]) (o := .tup [.int o.2.2.1, .int o.2.2.2.1, .int o.2.2.2.2]) nu) dz
        have hz := same_upd (o := .tup [.int o.2.2.1, .int o.2.2.2.1, .int o.2.2.2.2]) nu _ _ hz
        have s11 := s11.trans (same_upd (o := .tup [.int o.2.2.1, .int o.2.2.2.1, .int o.2.2.2.2]) nu)
        generalize upd H12 u (.tup [.int o.2.2.1, .int o.2.2.2.1, .int o.2.2.2.2]) = H13 at gu dz hz s11 ⊢
        refine ⟨zs3, hz, (by rw [sizeLine_eq]; omega), same_put s11 nD3, _, upd_same, (by rw [List.length_append, lz]; rfl), ?_⟩
        rw [List.take_add_one, go, List.map_append, List.map_append]
        exact dpAll_same (sm_wr (by simp)) (dpAll_app' dz (.cons (.tup (.inl (.inl gu)) (.cons (.int _) (.cons (.int _) (.cons (.int _) .nil)))) .nil))
      rintro H11 ⟨s11, zs3, hz, lz, dz⟩
      rw [List.take_of_length_le (by omega), ← eos] at dz
      have dz := dpAll_same off_sub dz
      have s9 := s4.trans (sO.trans s11)
      have dL := dp_same (sO.trans s11) dL
      refine ⟨_, rfl, _, rfl, _, rfl, B, xs, tms, c.1, 60, rfl, s9.seq hs, dpAll_same s9 da, lt, (fun t ht => (tok t ht).1), (by decide), fun H12 W s12 nW hW => ?_⟩
      have s9 := s9.trans s12
      have hz := s12 _ _ hz
      have dz := dpAll_same s12 dz
      have dL := dp_same s12 dL
      refine ⟨_, rfl, _, rfl, (by show 2 ≤ sizeLine; decide), fun t2 n2 => ?_⟩
      have ft : upd H12 t2 (.tup [.int (h : Nat), V.ref L]) t2 = some (.tup [.int (h : Nat), V.ref L]) := upd_same
      have st := same_upd (o := .tup [.int (h : Nat), V.ref L]) n2
      have hz := st _ _ hz
      have hW := st _ _ hW
      have dz := dpAll_same st dz
      have dL := dp_same st dL
      have s9 := s9.trans st
      generalize upd H12 t2 (.tup [.int (h : Nat), V.ref L]) = H13 at ft hz hW dz dL s9 ⊢
      refine ⟨D3, W, zs3, ofsF cs ps c.1, cwL c.1 tms 60, .ref t2, _, rfl, SqL.of hz, dz, (by have := ofs_len (z := c.1) pok; omega), SqL.of hW, (by omega), .tup (.inl (.inl ft)) (.cons (.int (h : Nat)) (.cons dL .nil)), lk_wid LK (by omega), fun HD sD => ?_⟩
      rw [lk_lackD LK]
      exact q _ (s9.trans sD)

end
end Pot

namespace Pot
open PySem PySem.Spec PyProof.Rows L2
section
variable {P : Program} {w : World} {K : PySem.W.Frag} {mg : Str → Option Value} {base : Heap}
theorem same_new {H H' : Hp} {S : List Addr} {L : Addr} (s : Same H H') (h : H L = none) : Same (off H S) (off H' (L :: S)) := fun x o e => by
  have hx := off_mem e
  rw [off_out hx] at e
  rw [off_out (by simp only [List.mem_cons, not_or]; exact ⟨ne_of_none e h, hx⟩)]
  exact s x o e
theorem kit_lt2 {H : Hp} {x : V} {d : PyData} (h : Dp K H x d) : PySem.W.kitAny K (.type (tyD d)) [.type "list", .type "tuple"] = some (isListD d || isTupD d) := kit_lt h
abbrev s__law_copied : Stmt := topS 28
def n__law_copied : List Str := ["_law_thing", "_law_some", "_law_one"]
theorem sc__law_copied : FnScope n__law_copied ["_law_thing"] (defScope s__law_copied) := ⟨rfl, rfl, rfl, by decide +kernel, rfl, by decide +kernel, by decide +kernel⟩
def spCopied (K : PySem.W.Frag) (k : Nat) : Sp := fun vs H Q _ => ∃ (S : List Addr) (x : V) (d : PyData), vs = [x] ∧ Live S H ∧ Dp K (off H S) x d ∧ d.depth < k ∧ widAll.wid d ≤ 5000 ∧ ∀ H' y, Same H H' → Dp K (off H' S) y d → Q y H'
set_option maxHeartbeats 1000000 in
theorem ok_copied {f : Addr} {fd : FuncData} {k0 : Nat} (F : Fun K "_law_copied" "_law_copied" s__law_copied f fd) (T : Txt mg) (bF : Binds K fd ["_law_thing"] []) (gF : mg "_law_copied" = some (.ref f)) :
    ∀ k : Nat, FnOk P w K mg base CX0 (k0 + k + 1) f fd ["_law_thing"] (spCopied K k) := by
  intro k
  induction k with
  | zero =>
    refine F.ok sc__law_copied (fun vs H Q E h => ?_) (fun cdv A outer s H vs Q E hr h => ?_)
    · obtain ⟨S, x, d, rfl, _⟩ := h
      rfl
    · obtain ⟨S, x, d, rfl, _, _, hk, _⟩ := h
      exact absurd hk (Nat.not_lt_zero _)
  | succ k G =>
    refine F.ok sc__law_copied (fun vs H Q E h => ?_) (fun cdv A outer s H vs Q E hr h => ?_)
    · obtain ⟨S, x, d, rfl, _⟩ := h
      rfl
    · obtain ⟨S, x, d, rfl, lv, dx, hd, hw, q⟩ := h
      have nd := sc__law_copied.nd
      /- 0 _law_thing, 1 _law_some, 2 _law_one -/
      refine ⟨_, (pss_cons (ps_if (pt_val (pe_callB (kc_isiT (K := K)) (by rfl) T.isinstance (by decide +kernel) (pa_cons (pv 0) (pa_cons (pe_tup (pa_cons (pe_bltn (v := .ty "list") (by rfl) T.list (by decide +kernel) rfl) (pa_cons (pe_bltn (v := .ty "tuple") (by rfl) T.tuple (by decide +kernel) rfl) pa_nil))) pa_nil))))
          (pss_cons (ps_setLc (i := 1) (own := [("_law_one", 2)]) rfl nd rfl rfl (sw_true rfl rfl rfl (by decide +kernel)) (ki_anyS (K := K) (pv 0)) (blkOk_by (N := n__law_copied) (sc := defScope s__law_copied) (by decide +kernel)) (fun _ _ _ _ _ => (pg_name (i := 2) nd rfl (.inl rfl))) (fun _ _ _ _ _ => pts_nil) (fun _ _ _ _ _ => (pe_call G hr (by rfl) gF F.kp bF .nil pass0 (pa_cons (pv 2) pa_nil))))
          (pss_one (ps_ret (pe_ifExp (pt_val (pe_callB (kc_isi (K := K)) (by rfl) T.isinstance (by decide +kernel) (pa_cons (pv 0) (pa_cons (pe_bltn (v := .ty "list") (by rfl) T.list (by decide +kernel) rfl) pa_nil)))) (pv 1) (pe_callTy (kc_tuple (K := K)) (by rfl) T.tuple (by decide +kernel) (pa_cons (pv 1) pa_nil))))))
          pss_nil)
      (pss_one (ps_ret (pv 0)))), ?_⟩
      refine ⟨_, rfl, (by show 2 ≤ sizeLine; decide), fun t nt => ?_⟩
      have s1 := same_upd (o := .tup [.ty "list", .ty "tuple"]) nt
      have dx := dp_same (sm_of (S := S) s1) dx
      have lv := lv.same s1
      have ht : upd H t (.tup [.ty "list", .ty "tuple"]) t = some (.tup [.ty "list", .ty "tuple"]) := upd_same
      generalize upd H t (.tup [.ty "list", .ty "tuple"]) = H1 at s1 dx ht lv ⊢
      have dH := dp_off dx
      refine ⟨_, t, _, _, _, _, rfl, ht, .cons (.ty _) (.cons (.ty _) .nil), tyx_dp dH, kit_lt dH, _, rfl, ?_⟩
      have dx0 := dx
      cases dx with
      | @lst a xs ds hl ha =>
        refine iteT (.inl ⟨_, rfl, a, rfl, ⟨_, sq_off hl⟩, fun D nD => ?_⟩)
        refine lc_it (walk_list (xs := xs)) (fun i Hx => Same H1 Hx ∧ ∃ us, Hx D = some (.lst us) ∧ DpAll K (off Hx (D :: S)) us (ds.take i)) ⟨same_upd nD, [], upd_same, .nil⟩ (fun i H2 _ h => h.1.seq (sq_off hl)) ?_ ?_
        · skip
          have lx := dpAll_len ha
          have l5 : ds.length ≤ 5000 := Nat.le_trans (Nat.le_max_left _ _) hw
          rintro i y H3 H4 hi ⟨s3, us, hD, du⟩ ⟨rfl, gy⟩
          obtain ⟨d1, g1, p1⟩ := dpAll_at ha gy
          refine ⟨rfl, tYes_at ?_⟩
          rw [if_pos rfl]
          have lv3 : Live (D :: S) H4 := (lv.same s3).cons hD
          have lus : us.length ≤ 5000 := by
            rw [dpAll_len du, List.length_take]; omega
          refine ⟨_, rfl, D :: S, y, d1, rfl, lv3, dp_same (same_new s3 nD) p1, ?_, ?_, fun H5 z s5 dz => ?_⟩
          · have h1 := depth_at g1
            have h2 : PyData.depthAll ds + 1 < k + 1 := hd
            omega
          · exact Nat.le_trans (wid_at g1) (Nat.le_trans (Nat.le_max_right _ _) hw)
          · have sw : Sm (D :: S) H5 (upd H5 D (.lst (us ++ [z]))) := sm_wr List.mem_cons_self
            refine ⟨us, s5 _ _ hD, Nat.lt_of_le_of_lt lus (by decide), same_put (s3.trans s5) nD, us ++ [z], upd_same, ?_⟩
            rw [List.take_add_one, g1]
            exact dpAll_same sw (dpAll_app' (dpAll_same (sm_of s5) du) (.cons dz .nil))
        · rintro H3 ⟨s3, us, hD, du⟩
          rw [dpAll_len ha, List.take_of_length_le (Nat.le_refl _)] at du
          have dH3 := dp_same s3 dH
          refine ⟨_, rfl, _, .ty _, _, _, isListD _, rfl, .ty _, tyx_dp dH3, kit_list dH3, _, rfl, iteT ⟨_, rfl, ?_⟩⟩
          exact q _ _ (s1.trans s3) (.lst (SqL.of (by rw [off_out (lv.out nD)]; exact hD)) (dpAll_same (off_mono fun z hz => List.mem_cons_of_mem _ hz) du))
      | @tup a xs ds hl ha =>
        refine iteT (.inr ⟨_, rfl, a, rfl, ⟨_, sqt_off hl⟩, fun D nD => ?_⟩)
        refine lc_it (walk_tup (xs := xs)) (fun i Hx => Same H1 Hx ∧ ∃ us, Hx D = some (.lst us) ∧ DpAll K (off Hx (D :: S)) us (ds.take i)) ⟨same_upd nD, [], upd_same, .nil⟩ (fun i H2 _ h => same_tup h.1 (sqt_off hl)) ?_ ?_
        · skip
          have lx := dpAll_len ha
          have l5 : ds.length ≤ 5000 := Nat.le_trans (Nat.le_max_left _ _) hw
          rintro i y H3 H4 hi ⟨s3, us, hD, du⟩ ⟨rfl, gy⟩
          obtain ⟨d1, g1, p1⟩ := dpAll_at ha gy
          refine ⟨rfl, tYes_at ?_⟩
          rw [if_pos rfl]
          have lv3 : Live (D :: S) H4 := (lv.same s3).cons hD
          have lus : us.length ≤ 5000 := by
            rw [dpAll_len du, List.length_take]; omega
          refine ⟨_, rfl, D :: S, y, d1, rfl, lv3, dp_same (same_new s3 nD) p1, ?_, ?_, fun H5 z s5 dz => ?_⟩
          · have h1 := depth_at g1
            have h2 : PyData.depthAll ds + 1 < k + 1 := hd
            omega
          · exact Nat.le_trans (wid_at g1) (Nat.le_trans (Nat.le_max_right _ _) hw)
          · have sw : Sm (D :: S) H5 (upd H5 D (.lst (us ++ [z]))) := sm_wr List.mem_cons_self
            refine ⟨us, s5 _ _ hD, Nat.lt_of_le_of_lt lus (by decide), same_put (s3.trans s5) nD, us ++ [z], upd_same, ?_⟩
            rw [List.take_add_one, g1]
            exact dpAll_same sw (dpAll_app' (dpAll_same (sm_of s5) du) (.cons dz .nil))
        · rintro H3 ⟨s3, us, hD, du⟩
          rw [dpAll_len ha, List.take_of_length_le (Nat.le_refl _)] at du
          have dH3 := dp_same s3 dH
          refine ⟨_, rfl, _, .ty _, _, _, isListD _, rfl, .ty _, tyx_dp dH3, kit_list dH3, _, rfl, iteF ⟨_, rfl, D, _, rfl, .inl ⟨SqL.of hD, fun u nu => ?_⟩⟩⟩
          have su := same_upd (o := .tup us) nu
          have uS : u ∉ S := ((lv.same s3).out nu)
          exact q _ _ ((s1.trans s3).trans su) (.tup (.inl (.inl (by rw [off_out uS]; exact upd_same))) (dpAll_same ((off_mono (fun z hz => List.mem_cons_of_mem _ hz) : Same (off H3 (D :: S)) (off H3 S)).trans (sm_of su)) du))
      | int i => exact iteF ⟨_, rfl, q _ _ s1 dx0⟩
      | bl b => exact iteF ⟨_, rfl, q _ _ s1 dx0⟩
      | str z => exact iteF ⟨_, rfl, q _ _ s1 dx0⟩
      | non => exact iteF ⟨_, rfl, q _ _ s1 dx0⟩

theorem seq_mid {t u : TS} {D} {σ : L2.St} {H : Hp} (G : L2.St → Hp → Prop) (h1 : ∀ N : L2.St → Hp → Prop, (∀ σ' H', G σ' H' → N σ' H') → t { D with nx := N } σ H) (h2 : ∀ σ' H', G σ' H' → u D σ' H') : tSeq t u D σ H := h1 (u D) h2
def tmsD (ts : List Tm) : PyData := .list (ts.map tmD)
theorem frs_same {H H' : Hp} {fs : List (V × PyData)} (s : Same H H') (h : ∀ p ∈ fs, Dp K H p.1 p.2) : ∀ p ∈ fs, Dp K H' p.1 p.2 := fun p hp => dp_same s (h p hp)
theorem noL_tm (t : Tm) : noLAll.noL (tmD t) := ⟨trivial, trivial, trivial, trivial, trivial⟩
theorem noL_o5 (o : Off5) : noLAll.noL (o5D o) := ⟨trivial, trivial, trivial, trivial, trivial, trivial⟩
theorem noL_ints : ∀ ns : List Int, noLAll (ns.map PyData.int)
  | [] => trivial
  | _ :: r => ⟨trivial, noL_ints r⟩
theorem bd_tm {t : Tm} (h : TmOk t) : Bd 9 1000 4041 1 80 (tmD t) := by
  obtain ⟨a1, a2⟩ := h.a
  obtain ⟨b1, b2⟩ := h.b
  have bs : ∀ {z : Str}, Nm z → Bd 9 1000 92 0 80 (.str z) := fun hn => (bd_str (Nat.le_trans hn.1.1 (by decide)) (by decide) hn.ascii).mono (Nat.le_refl _) (Nat.le_refl _) (by decide) (Nat.le_refl _) (Nat.zero_le _)
  have bi : ∀ {i : Int}, i.natAbs ≤ 1000 → Bd 9 1000 1921 0 80 (.int i) := fun h => (bd_int h).mono (Nat.le_refl _) (Nat.le_refl _) (Nat.le_refl _) (Nat.le_refl _) (Nat.zero_le _)
  have b4 : Bds 9 1000 (92 + 2 + (92 + 2 + (1921 + 2 + (1921 + 2)))) 0 80 [.str t.1, .str t.2.1, .int t.2.2.1, .int t.2.2.2] := (Bds.one (bs h.n)).app ((Bds.one (bs h.c)).app ((Bds.one (bi (by omega))).app (Bds.one (bi (by omega)))))
  exact (b4.tuple (by show 4 ≤ 80; decide)).mono (Nat.le_refl _) (Nat.le_refl _) (by decide) (Nat.le_refl _) (Nat.le_refl _)
theorem bd_tms {ts : List Tm} (h : ∀ t ∈ ts, TmOk t) (l : ts.length ≤ 20) : Bd 9 1000 81000 2 80 (tmsD ts) := by
  have b := (bds_map (f := tmD) fun t ht => bd_tm (h t ht)).list (show (ts.map tmD).length ≤ 80 by rw [List.length_map]; omega)
  exact b.mono (Nat.le_refl _) (Nat.le_refl _) (by have := Nat.mul_le_mul_left 4043 l; omega) (Nat.le_refl _) (Nat.le_refl _)
theorem bd_palE {cs : List Col} {ws : List Wsh} (pal : PalE cs ws) : Bd 9 1000 300000 3 80 (palD cs ws) := by
  have bs : ∀ {z : Str}, Nm z → Bd 9 1000 92 0 80 (.str z) := fun hn => (bd_str (Nat.le_trans hn.1.1 (by decide)) (by decide) hn.ascii).mono (Nat.le_refl _) (Nat.le_refl _) (by decide) (Nat.le_refl _) (Nat.zero_le _)
  have bi : ∀ {i : Int}, i.natAbs ≤ 1000 → Bd 9 1000 1921 0 80 (.int i) := fun h => (bd_int h).mono (Nat.le_refl _) (Nat.le_refl _) (Nat.le_refl _) (Nat.le_refl _) (Nat.zero_le _)
  have bc : ∀ c ∈ cs, Bd 9 1000 5870 1 80 (colD c) := fun c hc => by
    obtain ⟨h1, h2, h3, h4, h5, h6⟩ := pal.ch c hc
    have b4 : Bds 9 1000 (92 + 2 + (1921 + 2 + (1921 + 2 + (1921 + 2)))) 0 80 [.str c.1, .int c.2.1, .int c.2.2.1, .int c.2.2.2] := (Bds.one (bs (pal.wd c hc))).app ((Bds.one (bi (by omega))).app ((Bds.one (bi (by omega))).app (Bds.one (bi (by omega)))))
    exact (b4.tuple (by show 4 ≤ 80; decide)).mono (Nat.le_refl _) (Nat.le_refl _) (by decide) (Nat.le_refl _) (Nat.le_refl _)
  have bw : ∀ r ∈ ws, Bd 9 1000 2120 1 80 (washD r) := fun r hr => by
    obtain ⟨h1, h2, h3⟩ := pal.wa r hr
    have bo : Bd 9 1000 1921 0 80 (optD r.2.2) := by
      cases h : r.2.2 with
      | none => exact bd_none.mono (Nat.le_refl _) (Nat.le_refl _) (by decide) (Nat.le_refl _) (Nat.zero_le _)
      | some i => have := h1 i h; exact bi (by omega)
    have b4 : Bds 9 1000 (92 + 2 + (92 + 2 + (1921 + 2))) 0 80 [.str r.1, .str r.2.1, optD r.2.2] := (Bds.one (bs h2)).app ((Bds.one (bs h3)).app (Bds.one bo))
    exact (b4.tuple (by show 3 ≤ 80; decide)).mono (Nat.le_refl _) (Nat.le_refl _) (by decide) (Nat.le_refl _) (Nat.le_refl _)
  have l1 := pal.le
  have l2 := pal.ok.nw
  have b1 := (bds_map (f := colD) bc).tuple (show (cs.map colD).length ≤ 80 by rw [List.length_map]; omega)
  have b2 := (bds_map (f := washD) bw).tuple (show (ws.map washD).length ≤ 80 by rw [List.length_map]; omega)
  exact (((Bds.one b1).app (Bds.one b2)).tuple (by show 2 ≤ 80; decide)).mono (Nat.le_refl _) (Nat.le_refl _) (by have := Nat.mul_le_mul_left 5872 l1; have := Nat.mul_le_mul_left 2122 l2; omega) (Nat.le_refl _) (Nat.le_refl _)
def allD (cs : List Col) (ws : List Wsh) (ps : List (List Trn)) (ts : List Tm) : PyData := .list [palD cs ws, potsD ps, tmsD ts]
theorem bd_all {cs : List Col} {ws : List Wsh} {ps : List (List Trn)} {ts : List Tm} (pal : PalE cs ws) (pok : PotsOk cs ps) (h : ∀ t ∈ ts, TmOk t) (l : ts.length ≤ 20) : Bd 9 1000 900000 4 80 (allD cs ws ps ts) := by
  have b1 := bd_palE pal
  have b2 : Bd 9 1000 422827 3 80 (potsD ps) := (bd_pots pal.wd pok).mono (Nat.le_refl _) (Nat.le_refl _) (Nat.le_refl _) (Nat.le_refl _) (by decide)
  have b3 : Bd 9 1000 81000 3 80 (tmsD ts) := (bd_tms h l).mono (Nat.le_refl _) (Nat.le_refl _) (Nat.le_refl _) (by decide) (Nat.le_refl _)
  exact (((Bds.one b1).app ((Bds.one b2).app (Bds.one b3))).list (by show 3 ≤ 80; decide)).mono (Nat.le_refl _) (Nat.le_refl _) (by decide) (Nat.le_refl _) (Nat.le_refl _)
def toldA (rs : List Wk) : PyData := .tuple [.list ((rs.mergeSort (PySem.W.dataLe false wkD)).map wkD), .none]
def toldL (h : Nat) (z : Str) (S : List Nat) : PyData := .tuple [.none, .tuple [.int (h : Nat), .str z, .list (((natSort S).map Int.ofNat).map PyData.int)]]
/-- what may be told, as data -/
def TdD (cs : List Col) (ps : List (List Trn)) (tms : List Tm) (d : PyData) : Prop := (∃ (rs : List Wk) (n : Nat) (zs : List Str), d = toldA rs ∧ AllR cs ps tms n zs rs ∧ Told cs ps tms none) ∨
  ∃ (h : Nat) (z : Str) (S : List Nat), d = toldL h z S ∧ Told cs ps tms (some ((h : Int), z)) ∧ LkR (ofsF cs ps z) (cwL z tms 60) h S ∧ LkS cs ps tms h z S
theorem TdD.uniq {cs : List Col} {ps : List (List Trn)} {tms : List Tm} {d d' : PyData} (a : TdD cs ps tms d) (b : TdD cs ps tms d') : d = d' := by
  rcases a with ⟨rs, n, zs, e, A, t⟩ | ⟨h, z, S, e, t, L, k⟩ <;> rcases b with ⟨rs', n', zs', e', A', t'⟩ | ⟨h', z', S', e', t', L', k'⟩
  · rw [e, e', all_det A A']
  · cases told_uniq t t'
  · cases told_uniq t t'
  · have u := Option.some.inj (told_uniq t t')
    have u1 : (h : Int) = (h' : Int) := (Prod.ext_iff.mp u).1
    have u2 : z = z' := (Prod.ext_iff.mp u).2
    have u1 : h = h' := by omega
    subst u1 u2
    rw [e, e', k.uniq k']
theorem TdD.bd {cs : List Col} {ws : List Wsh} {ps : List (List Trn)} {tms : List Tm} {d : PyData} (pal : PalE cs ws) (pok : PotsOk cs ps) (l : tms.length ≤ 12) (tok : ∀ t ∈ tms, TmOk t ∧ ∃ c ∈ cs, c.1 = t.2.1) (und : (tms.map fun t => t.1).Nodup) (a : TdD cs ps tms d) : Bd 9 1000 5000000 3 800 d := by
  have bs : ∀ {z : Str}, Nm z → Bd 9 1000 92 0 800 (.str z) := fun hn => (bd_str (Nat.le_trans hn.1.1 (by decide)) (by decide) hn.ascii).mono (Nat.le_refl _) (Nat.le_refl _) (by decide) (Nat.le_refl _) (Nat.zero_le _)
  have bi : ∀ {i : Int}, i.natAbs ≤ 1000 → Bd 9 1000 1921 0 800 (.int i) := fun h => (bd_int h).mono (Nat.le_refl _) (Nat.le_refl _) (Nat.le_refl _) (Nat.le_refl _) (Nat.zero_le _)
  rcases a with ⟨rs, n, zs, rfl, A, t⟩ | ⟨h, z, S, rfl, t, L, k⟩
  · have ll : rs.length ≤ 720 := by have := all_len A und (fun t ht => (tok t ht).1.a.1); omega
    have br : ∀ r ∈ rs.mergeSort (PySem.W.dataLe false wkD), Bd 9 1000 5866 1 800 (wkD r) := fun r hr => by
      have hr : r ∈ rs := List.mem_mergeSort.mp hr
      obtain ⟨a, b, ts, t, c, tm, R, _⟩ := row_ok pal (by omega) A hr
      have g1 := (List.getElem?_eq_some_iff.mp R.g1).1
      have g2 := (List.getElem?_eq_some_iff.mp R.g2).1
      have e1 := pok.l
      obtain ⟨e2, e3⟩ := pok.e ts (List.mem_of_getElem? R.g1)
      have e4 := e3 t (List.mem_of_getElem? R.g2)
      have f1 := e4.a
      have f2 := e4.b
      have lo := R.lo
      have hi := R.hi
      have p1 := R.p1
      have p2 := R.p2
      have nm : Nm r.2.1 := by rw [← R.n]; exact (tok tm R.m).1.n
      have b4 : Bds 9 1000 (1921 + 2 + (92 + 2 + (1921 + 2 + (1921 + 2)))) 0 800 [.int r.1, .str r.2.1, .int r.2.2.1, .int r.2.2.2] := (Bds.one (bi (by omega))).app ((Bds.one (bs nm)).app ((Bds.one (bi (by omega))).app (Bds.one (bi (by omega)))))
      exact (b4.tuple (by show 4 ≤ 800; decide)).mono (Nat.le_refl _) (Nat.le_refl _) (by decide) (Nat.le_refl _) (Nat.le_refl _)
    have b := (bds_map (f := wkD) br).list (show ((rs.mergeSort (PySem.W.dataLe false wkD)).map wkD).length ≤ 800 by rw [List.length_map, List.length_mergeSort]; omega)
    rw [List.length_mergeSort] at b
    have b2 := ((Bds.one b).app (Bds.one ((bd_none (n := 9) (m := 1000)).mono (Nat.le_refl _) (Nat.le_refl _) (Nat.le_refl _) (Nat.zero_le _) (Nat.zero_le _)))).tuple (by show 2 ≤ 800; decide)
    exact b2.mono (Nat.le_refl _) (Nat.le_refl _) (by have := Nat.mul_le_mul_left 5868 ll; omega) (by decide) (Nat.le_refl _)
  · have lt := L.lt
    rw [cwL_len] at lt
    obtain ⟨_, ⟨c, hc, ez⟩, _⟩ := t
    have nm : Nm z := by rw [← show c.1 = z from ez]; exact pal.wd c hc
    have lS : S.length ≤ 60 := by
      have := nodup_leG41 L.nd (ts := List.range 60) fun x hx => List.mem_range.mpr (by have := L.le x hx; omega)
      rwa [List.length_range] at this
    have ln : ((natSort S).map Int.ofNat).length ≤ 60 := by rw [List.length_map, (natSort_perm _).length_eq]; exact lS
    have bl := (bds_map (f := PyData.int) (l := (natSort S).map Int.ofNat) fun i hi => by
      obtain ⟨x, hx, rfl⟩ := List.mem_map.mp hi
      have := L.le x ((natSort_perm _).mem_iff.mp hx)
      exact bi (by show (Int.ofNat x).natAbs ≤ 1000; show x ≤ 1000; omega)).list (show (((natSort S).map Int.ofNat).map PyData.int).length ≤ 800 by rw [List.length_map]; omega)
    have b3 := ((Bds.one ((bi (i := ((h : Nat) : Int)) (by omega)).mono (Nat.le_refl _) (Nat.le_refl _) (Nat.le_refl _) (Nat.zero_le 1) (Nat.le_refl _))).app ((Bds.one ((bs nm).mono (Nat.le_refl _) (Nat.le_refl _) (Nat.le_refl _) (Nat.zero_le 1) (Nat.le_refl _))).app (Bds.one bl))).tuple (by show 3 ≤ 800; decide)
    have b4 := ((Bds.one ((bd_none (n := 9) (m := 1000)).mono (Nat.le_refl _) (Nat.le_refl _) (Nat.le_refl _) (Nat.zero_le _) (Nat.zero_le _))).app (Bds.one b3)).tuple (by show 2 ≤ 800; decide)
    exact b4.mono (Nat.le_refl _) (Nat.le_refl _) (by have := Nat.mul_le_mul_left 1923 ln; omega) (by decide) (Nat.le_refl _)
/-- what is told, in a heap, its lists new since another one -/
def TdX (K : PySem.W.Frag) (cs : List Col) (ps : List (List Trn)) (tms : List Tm) (H0 H : Hp) (t : Addr) (d : PyData) : Prop := (∃ (R : Addr) (us : List V) (rs : List Wk) (n : Nat) (zs : List Str), H0 R = none ∧ H t = some (.tup [.ref R, .non]) ∧ H R = some (.lst us) ∧ d = toldA rs ∧ DpAll K H us ((rs.mergeSort (PySem.W.dataLe false wkD)).map wkD) ∧ rs.length ≤ 24000 ∧ AllR cs ps tms n zs rs ∧ Told cs ps tms none) ∨
  ∃ (h : Nat) (z : Str) (S : List Nat) (x L : Addr), H0 L = none ∧ H t = some (.tup [.non, .ref x]) ∧ H x = some (.tup [.int (h : Nat), .str z, .ref L]) ∧ H L = some (.lst ((natSort S).map nV)) ∧ d = toldL h z S ∧ Told cs ps tms (some ((h : Int), z)) ∧ LkR (ofsF cs ps z) (cwL z tms 60) h S ∧ LkS cs ps tms h z S
theorem TdX.d {cs : List Col} {ps : List (List Trn)} {tms : List Tm} {H0 H : Hp} {t : Addr} {d : PyData} (a : TdX K cs ps tms H0 H t d) : TdD cs ps tms d := by
  rcases a with ⟨R, us, rs, n, zs, _, _, _, e, _, _, A, T⟩ | ⟨h, z, S, x, L, _, _, _, _, e, T, K1, K2⟩
  · exact .inl ⟨rs, n, zs, e, A, T⟩
  · exact .inr ⟨h, z, S, e, T, K1, K2⟩
theorem TdX.dp {cs : List Col} {ps : List (List Trn)} {tms : List Tm} {H0 H : Hp} {t : Addr} {d : PyData} (a : TdX K cs ps tms H0 H t d) : Dp K H (.ref t) d := by
  rcases a with ⟨R, us, rs, n, zs, _, ht, hR, rfl, dR, _, A, T⟩ | ⟨h, z, S, x, L, _, ht, hx, hL, rfl, T, K1, K2⟩
  · exact .tup (.inl (.inl ht)) (.cons (.lst (SqL.of hR) dR) (.cons .non .nil))
  · have eL : (natSort S).map nV = ((natSort S).map Int.ofNat).map V.int := by rw [List.map_map]; rfl
    rw [eL] at hL
    exact .tup (.inl (.inl ht)) (.cons .non (.cons (.tup (.inl (.inl hx)) (.cons (.int _) (.cons (.str _) (.cons (.lst (SqL.of hL) (dp_ints _)) .nil)))) .nil))
theorem TdX.r {cs : List Col} {ps : List (List Trn)} {tms : List Tm} {H0 H : Hp} {t : Addr} {d : PyData} (a : TdX K cs ps tms H0 H t d) : TdR K cs ps tms H t := by
  rcases a with ⟨R, us, rs, n, zs, _, ht, hR, _, dR, l, A, T⟩ | ⟨h, z, S, x, L, _, ht, hx, hL, _, T, K1, K2⟩
  · exact .inl ⟨R, us, n, zs, rs, ht, hR, dR, l, A⟩
  · exact .inr ⟨h, z, S, x, L, ht, hx, hL, K1, T.2.1⟩
theorem TdX.same {cs : List Col} {ps : List (List Trn)} {tms : List Tm} {H0 H H' : Hp} {t : Addr} {d : PyData} (a : TdX K cs ps tms H0 H t d) (s : Same H H') : TdX K cs ps tms H0 H' t d := by
  rcases a with ⟨R, us, rs, n, zs, n0, ht, hR, e, dR, l, A, T⟩ | ⟨h, z, S, x, L, n0, ht, hx, hL, e, T, K1, K2⟩
  · exact .inl ⟨R, us, rs, n, zs, n0, s _ _ ht, s _ _ hR, e, dpAll_same s dR, l, A, T⟩
  · exact .inr ⟨h, z, S, x, L, n0, s _ _ ht, s _ _ hx, s _ _ hL, e, T, K1, K2⟩
theorem worked_told {H : Hp} {Q : VK} {E : _} {v : V} {PP A : Addr} {xs : List V} {cs : List Col} {ws : List Wsh} {ps : List (List Trn)} {tms : List Tm} (dv : Dp K H v (palD cs ws)) (pal : PalE cs ws) (dps : Dp K H (.ref PP) (potsD ps)) (pok : PotsOk cs ps) (hs : SqL K H A xs) (da : DpAll K H xs (tms.map tmD)) (l : tms.length ≤ 12) (tok : ∀ t ∈ tms, TmOk t ∧ ∃ c ∈ cs, c.1 = t.2.1) (q : ∀ (H' : Hp) (t : Addr) (d : PyData), Same H H' → TdX K cs ps tms H H' t d → Q (.ref t) H') : spWorked K [v, .ref PP, .ref A] H Q E :=
  ⟨v, PP, A, xs, cs, ws, ps, tms, rfl, dv, pal, dps, pok, hs, da, by omega, tok, fun T H' t R us rs n zs s n0 ht hR dR l A => q H' t _ s (.inl ⟨R, us, rs, n, zs, n0, ht, hR, rfl, dR, l, A, T⟩), fun h z S T K1 K2 H' t x L s n0 ht hx hL => q H' t _ s (.inr ⟨h, z, S, x, L, n0, ht, hx, hL, rfl, T, K1, K2⟩)⟩

abbrev s__law_right : Stmt := topS 36
def n__law_right : List Str := ["_law_box_here", "_law_palette_here", "_law_pots_here", "_law_own", "_law_names_here", "_law_teams", "_law_handed", "_law_found", "_law_kept", "_law_name"]
theorem sc__law_right : FnScope n__law_right ["_law_box_here"] (defScope s__law_right) := ⟨rfl, rfl, rfl, by decide +kernel, rfl, by decide +kernel, by decide +kernel⟩
def spRight : Sp := fun vs H Q _ => ∃ (b : Addr) (n : Nat), vs = [.ref b] ∧ Bp H b n ∧ n < 2 ^ 36 ∧ ∀ H', Bp H' b (n + 2000) → Sm [b] H H' → Q (.bl true) H'
set_option maxHeartbeats 8000000 in
theorem ok_right {f : Addr} {fd : FuncData} {k : Nat} (F : Fun K "_law_right" "_law_right" s__law_right f fd) (T : Txt mg) (c__law_take : Cl P w K mg base (k + 1) "_law_take" spTake) (c__law_names : Cl P w K mg base (k + 2) "_law_names" spNames) (c__law_palette : Cl P w K mg base (k + 3) "_law_palette" (spPalette K)) (c__law_pots : Cl P w K mg base (k + 3) "_law_pots" (spPots K)) (c__law_team : Cl P w K mg base (k + 2) "_law_team" (spTeam K)) (c__law_own_teams : Cl P w K mg base (k + 2) "_law_own_teams" (spOwnT K)) (c__law_copied : Cl P w K mg base (k + 7) "_law_copied" (spCopied K 6)) (c_worked_by : Cl P w K mg base (k + 6) "worked_by" (spWorked K)) (c__law_told_right : Cl P w K mg base (k + 7) "_law_told_right" (spTR K)) : FnG P w K mg base (k + 8) f fd ["_law_box_here"] spRight := by
  refine okG F sc__law_right (fun vs H Q E h => ?_) (fun cdv A outer s H vs Q gd hr h => ?_)
  · obtain ⟨b, n, rfl, _⟩ := h
    rfl
  · obtain ⟨b, n, rfl, B, hn, q⟩ := h
    have nd := sc__law_right.nd
    have hu64 := hr.units
    refine ⟨_, (pss_cons (ps_set (i := 1) nd rfl (.inr rfl) (pe_cl c__law_palette hr (by omega) (by rfl) (pa_cons (pv 0) (pa_cons (pe_ix (kx_list (K := K)) (pe_lst (pa_cons pe_int (pa_cons pe_int pa_nil))) (pe_cl c__law_take hr (by omega) (by rfl) (pa_cons (pv 0) (pa_cons pe_int pa_nil))) (fun _ _ => rfl)) pa_nil))))
      (pss_cons (ps_asg (pe_tup (pa_cons (pe_cl c__law_pots hr (by omega) (by rfl) (pa_cons (pv 0) (pa_cons (pv 1) (pa_cons pe_int pa_nil)))) (pa_cons (pe_cmpR op_eq (pe_cl c__law_take hr (by omega) (by rfl) (pa_cons (pv 0) (pa_cons pe_int pa_nil))) pe_int (nomark _)) pa_nil))) (kg_tup (K := K) (n := 2) (pgs_cons (pg_name (i := 2) nd rfl (.inr rfl)) (pgs_cons (pg_name (i := 3) nd rfl (.inl rfl)) pgs_nil))))
      (pss_cons (ps_set (i := 4) nd rfl (.inl rfl) (pe_cl c__law_names hr (by omega) (by rfl) (pa_cons (pv 0) (pa_cons (pe_cl c__law_take hr (by omega) (by rfl) (pa_cons (pv 0) (pa_cons pe_int pa_nil))) pa_nil))))
      (pss_cons (ps_if (pt_val (pv 3))
          (pss_one (ps_set (i := 5) nd rfl (.inl rfl) (pe_cl c__law_own_teams hr (by omega) (by rfl) (pa_cons (pv 0) (pa_cons (pv 1) (pa_cons (pv 2) (pa_cons (pv 4) pa_nil)))))))
          (pss_one (ps_setLc (i := 5) (own := [("_law_name", 9)]) rfl nd rfl rfl (sw_true rfl rfl rfl (by decide +kernel)) (ki_list (K := K) (pv 4)) (blkOk_by (N := n__law_right) (sc := defScope s__law_right) (by decide +kernel)) (fun _ _ _ _ _ => (pg_name (i := 9) nd rfl (.inl rfl))) (fun _ _ _ _ _ => pts_nil) (fun _ _ _ _ _ => (pe_cl c__law_team hr (by omega) (by rfl) (pa_cons (pv 0) (pa_cons (pv 1) (pa_cons (pv 2) (pa_cons (pv 9) pa_nil)))))))))
      (pss_cons (ps_set (i := 6) nd rfl (.inl rfl) (pe_cl c__law_copied hr (by omega) (by rfl) (pa_cons (pe_lst (pa_cons (pv 1) (pa_cons (pv 2) (pa_cons (pv 5) pa_nil)))) pa_nil)))
      (pss_cons (ps_set (i := 7) nd rfl (.inl rfl) (pe_cl c_worked_by hr (by omega) (by rfl) (pa_cons (pv 1) (pa_cons (pv 2) (pa_cons (pv 5) pa_nil)))))
      (pss_cons (ps_set (i := 8) nd rfl (.inl rfl) (pe_callB (kc_repr (K := K) gd hu64) (by rfl) T.repr (by decide +kernel) (pa_cons (pv 7) pa_nil)))
      (pss_cons (ps_if ((pw_or (pt_not (pt_val (pe_cl c__law_told_right hr (by omega) (by rfl) (pa_cons (pv 1) (pa_cons (pv 2) (pa_cons (pv 5) (pa_cons (pv 7) pa_nil))))))) (pw_or1 ((pw_and (pt_val (pv 3)) (pw_and1 (pt_cmpR op_notN (pe_ix (kx_tup (K := K)) (pv 7) pe_int (fun _ _ => rfl)) pe_non (nomark _))))).pt))).pt
          pss_never
          pss_nil)
      (pss_cons (ps_if (pt_cmpR op_isN (pe_ix (kx_tup (K := K)) (pv 7) pe_int (fun _ _ => rfl)) pe_non (nomark _))
          (pss_cons (ps_expr (pe_bm0 PySem.F.plainAttrs_list PySem.F.slot_list_reverse PySem.F.type_list_reverse mt_reverse (pe_ix (kx_tup (K := K)) (pv 7) pe_int (fun _ _ => rfl))))
          (pss_one (ps_expr (pe_bm PySem.F.plainAttrs_list PySem.F.slot_list_append PySem.F.type_list_append mt_append (pe_ix (kx_tup (K := K)) (pv 7) pe_int (fun _ _ => rfl)) (pa_cons pe_str pa_nil)))))
          (pss_one (ps_expr (pe_bm PySem.F.plainAttrs_list PySem.F.slot_list_append PySem.F.type_list_append mt_append (pe_ix (kx_tup (K := K)) (pe_ix (kx_tup (K := K)) (pv 7) pe_int (fun _ _ => rfl)) pe_int (fun _ _ => rfl)) (pa_cons pe_int pa_nil)))))
      (pss_one (ps_ret (pe_and (pe_cmpR op_eq (pe_callB (kc_repr (K := K) gd hu64) (by rfl) T.repr (by decide +kernel) (pa_cons (pe_cl c_worked_by hr (by omega) (by rfl) (pa_cons (pv 1) (pa_cons (pv 2) (pa_cons (pv 5) pa_nil)))) pa_nil)) (pv 8) (nomark _)) (pe_one (pe_cmpR (ko_eq (K := K) hu64) (pe_lst (pa_cons (pv 1) (pa_cons (pv 2) (pa_cons (pv 5) pa_nil)))) (pv 6) (nomark _))))))))))))))), ?_⟩
    have lb0 : ∀ {l : Addr}, H l = none → l ≠ b := fun h => B.ne h
    refine ⟨_, rfl, (by show 2 ≤ sizeLine; decide), fun l nl => ?_⟩
    have lb := lb0 nl
    have B0 := B.put (o := .lst [.int 6, .int 2]) nl
    have sc := sm_put (S := [b]) (o := .lst [.int 6, .int 2]) nl
    have hl : upd H l (.lst [.int 6, .int 2]) l = some (.lst [.int 6, .int 2]) := upd_same
    generalize upd H l (.lst [.int 6, .int 2]) = H0 at B0 sc hl ⊢
    refine ⟨_, rfl, b, 2, _, rfl, (by decide), (by decide), B0, by omega, fun H1 r r0 r1 B1 s1 => ?_⟩
    have hl := sm1_at s1 lb hl
    obtain ⟨mo, gmo, mo1, mo6⟩ : ∃ mo : Nat, atI [V.int 6, .int 2] r = some (.int (mo : Nat)) ∧ 1 ≤ mo ∧ mo ≤ 6 := by
      have h : r = 0 ∨ r = 1 := by omega
      rcases h with rfl | rfl
      · exact ⟨6, rfl, by decide, by decide⟩
      · exact ⟨2, rfl, by decide, by decide⟩
    refine ⟨l, _, r, _, rfl, rfl, SqL.of hl, gmo, b, _, mo, rfl, mo1, mo6, B1, by omega, fun H2 v cs ws B2 s2 dv pal unc => ?_⟩
    have sc := (sc.trans s1).trans s2
    simp only [gName, List.set]
    refine ⟨_, rfl, _, rfl, b, v, cs, ws, _, rfl, B2, by omega, dv, pal, fun H3 PP ps B3 s3 dps pok => ?_⟩
    have dv := dp_same s3 dv
    have sc := sc.trans s3
    refine ⟨_, rfl, b, 2, _, rfl, (by decide), (by decide), B3, by omega, fun H4 o o0 o1 B4 s4 => ⟨rfl, (by show 2 ≤ sizeLine; decide), fun t nt => ?_⟩⟩
    have dv := dp_same s4 dv
    have dps := dp_same s4 dps
    have sc := sc.trans s4
    obtain ⟨own, eo⟩ : ∃ own, own = decide (V.int o = V.int 0) := ⟨_, rfl⟩
    rw [← eo]
    have st := sm_put (S := [b]) (o := .tup [.ref PP, .bl own]) nt
    have ft : upd H4 t (.tup [.ref PP, .bl own]) t = some (.tup [.ref PP, .bl own]) := upd_same
    have dv := dp_same st dv
    have dps := dp_same st dps
    have sc := sc.trans st
    have B := B4.put (o := .tup [.ref PP, .bl own]) nt
    generalize upd H4 t (.tup [.ref PP, .bl own]) = H5 at ft dv dps sc B ⊢
    clear st
    refine ⟨t, _, rfl, .inl (.inl ft), rfl, _, _, rfl, _, _, rfl, rfl, ?_⟩
    simp only [gName, List.set]
    clear ft nt eo B4 B3 B2 B1 B0 s1 s2 s3 s4 hl nl
    refine ⟨_, rfl, _, rfl, b, 11, _, rfl, (by decide), (by decide), B, by omega, fun H6 m m0 m1 B6 s6 => ?_⟩
    obtain ⟨m, rfl⟩ : ∃ k : Nat, m = (k : Int) := ⟨m.toNat, by omega⟩
    refine ⟨b, _, m, rfl, B6, by omega, by omega, fun H7 N ys B7 s7 nN hN ly wy yn => ?_⟩
    have dv := dp_same (s6.trans s7) dv
    have dps := dp_same (s6.trans s7) dps
    have sc := (sc.trans s6).trans s7
    have Nb : N ≠ b := B6.ne nN
    have fN : off H7 [b] N = some (.lst (ys.map V.str)) := by rw [off_out (by simpa using Nb)]; exact hN
    simp only [gName, List.set]
    refine seq_mid (fun σ Hx => ∃ (T' : Addr) (tms : List Tm) (v9 : Option V), σ = [some (.ref b), some v, some (.ref PP), some (.bl own), some (.ref N), some (.ref T'), none, none, none, v9] ∧ Bp Hx b (n + 1200) ∧ Sm [b] H Hx ∧ Dp K (off Hx [b]) v (palD cs ws) ∧ Dp K (off Hx [b]) (.ref PP) (potsD ps) ∧ Dp K (off Hx [b]) (.ref T') (tmsD tms) ∧ tms.length ≤ 12 ∧ (∀ t ∈ tms, TmOk t ∧ ∃ c ∈ cs, c.1 = t.2.1) ∧ (tms.map fun t => t.1).Nodup ∧ (own = true → Told cs ps tms none)) (fun Nx hNx => ?_) (fun σ Hx h => ?_)
    · refine ⟨_, rfl, _, rfl, ?_⟩
      cases own with
      | true =>
        rw [if_pos rfl]
        refine ⟨_, rfl, _, rfl, _, rfl, _, rfl, b, PP, N, v, cs, ws, ps, ys, _, rfl, B7, by omega, dv, pal, unc, dps, pok, fN, by omega, wy, yn, fun H8 L us tms pos B8 s8 nL hL da l12 tok und O le => ?_⟩
        have Lb : L ≠ b := B7.bx.ne nL
        exact hNx _ _ ⟨L, tms, none, rfl, B8.mono (by omega), sc.trans s8, dp_same s8 dv, dp_same s8 dps, .lst (SqL.of (by rw [off_out (by simpa using Lb)]; exact hL)) da, l12, tok, und, fun _ => own_none pal (by omega) O fun t ht => ⟨(tok t ht).1.a.1, le t ht⟩⟩
      | false =>
        rw [if_neg Bool.false_ne_true]
        refine ⟨_, rfl, N, rfl, ⟨_, SqL.of hN⟩, fun R nR => ?_⟩
        have NR : N ≠ R := ne_of_none hN nR
        have A0 := Acc.start (R := R) (fs := [(v, palD cs ws), (.ref PP, potsD ps)]) (H0 := H) B7 sc nR (fun p hp => by
          simp only [List.mem_cons, List.not_mem_nil, or_false] at hp
          rcases hp with rfl | rfl
          · exact dv
          · exact dps)
        have hN0 : upd H7 R (.lst []) N = some (.lst (ys.map V.str)) := by rw [upd_ne NR]; exact hN
        refine lc_it (walk_list (xs := ys.map V.str)) (fun i Hx => ∃ us tms, Acc K H b R [(v, palD cs ws), (.ref PP, potsD ps)] (n + 1 + 300 + 600 + 1 + 1 + 20 + 10 * i) us (tms.map tmD) Hx ∧ tms.length = i ∧ (∀ t ∈ tms, TmOk t ∧ ∃ c ∈ cs, c.1 = t.2.1) ∧ (tms.map fun t => t.1) = ys.take i ∧ Hx N = some (.lst (ys.map V.str))) ⟨[], [], A0, rfl, (fun _ h => (List.not_mem_nil h).elim), rfl, hN0⟩ (fun i Hx _ h => by obtain ⟨_, _, _, _, _, _, h⟩ := h; exact SqL.of h) ?_ ?_
        · rintro i x H8 H9 hi ⟨us, tms, M, ltm, tok, tn, hN⟩ ⟨rfl, gx⟩
          rw [List.getElem?_map] at gx
          obtain ⟨z, gz, rfl⟩ := Option.map_eq_some_iff.mp gx
          have hi2 : i < ys.length := (List.getElem?_eq_some_iff.mp gz).1
          refine ⟨rfl, tYes_at ?_⟩
          rw [if_pos rfl]
          refine ⟨_, rfl, _, rfl, _, rfl, _, rfl, b, PP, v, cs, ws, ps, z, _, rfl, M.st, by omega, M.kept (q := (v, palD cs ws)) (by simp), pal, M.kept (q := (.ref PP, potsD ps)) (by simp), pok, wy z (List.mem_of_getElem? gz), fun H9 t tm B9 s9 dt tk tc tz => ?_⟩
          have M := M.drawn B9 s9
          have hN := sm1_at s9 Nb hN
          have dt2 : Dp K (off H9 [R, b]) (.ref t) (tmD tm) := dp_offX M.hR (noL_tm tm) dt
          have lus : us.length = i := by rw [dpAll_map_len M.dR]; exact ltm
          refine ⟨us, M.hR, (by rw [lus, sizeLine_eq]; omega), us ++ [.ref t], tms ++ [tm], (by rw [List.map_append]; exact (M.app dt2).mono (by omega)), by rw [List.length_append, ltm]; rfl, fun x hx => ?_, ?_, (by rw [upd_ne NR]; exact hN)⟩
          · rcases List.mem_append.mp hx with h | h
            · exact tok x h
            · rw [List.mem_singleton.mp h]; exact ⟨tk, tc⟩
          · rw [List.map_append, tn, List.take_add_one, gz]
            show _ ++ [tm.1] = _ ++ [z]
            rw [tz]
        rintro H8 ⟨us, tms, M, ltm, tok, tn, _⟩
        rw [List.length_map] at ltm tn
        rw [List.take_length] at tn
        have ly := ltm
        exact hNx _ _ ⟨R, tms, _, rfl, M.st.mono (by rw [List.length_map]; omega), M.sm, M.kept (q := (v, palD cs ws)) (by simp), M.kept (q := (.ref PP, potsD ps)) (by simp), M.done, by omega, tok, by rw [tn]; exact yn, fun h => by cases h⟩
    clear B7 s6 s7 nN hN wy yn ly fN sc dv dps hn m0 m1
    obtain ⟨T', tms, v9, rfl, B, sc, dv, dps, dts, l12, tok, und, own0⟩ := h
    have bda := bd_all pal pok (fun t ht => (tok t ht).1) (show tms.length ≤ 20 by omega)
    refine ⟨_, rfl, _, rfl, _, rfl, (by show 3 ≤ sizeLine; decide), fun a0 na0 => ?_⟩
    have lv5 : Live [b] Hx := Live.pw B
    have fa := off_new (o := .lst [v, .ref PP, .ref T']) lv5 na0
    have s6 := sm_put (S := [b]) (o := .lst [v, .ref PP, .ref T']) na0
    have da : Dp K (off (upd Hx a0 (.lst [v, .ref PP, .ref T'])) [b]) (.ref a0) (allD cs ws ps tms) := .lst (SqL.of fa) (.cons (dp_same s6 dv) (.cons (dp_same s6 dps) (.cons (dp_same s6 dts) .nil)))
    have B := B.put (o := .lst [v, .ref PP, .ref T']) na0
    have sc := sc.trans s6
    have dv := dp_same s6 dv
    have dps := dp_same s6 dps
    have dts := dp_same s6 dts
    generalize upd Hx a0 (.lst [v, .ref PP, .ref T']) = H6 at da B sc dv dps dts ⊢
    refine ⟨[b], .ref a0, _, rfl, Live.pw B, da, Nat.lt_of_le_of_lt bda.t.d (by decide), Nat.le_trans bda.t.w (by decide), fun H7 hd s7 dh => ?_⟩
    have B := B.same s7
    have s7' : Sm [b] H6 H7 := sm_of s7
    have sc := sc.trans s7'
    have dv := dp_same s7' dv
    have dps := dp_same s7' dps
    have dts := dp_same s7' dts
    clear s7 s7' da s6 fa lv5 na0
    obtain ⟨T2, tx, eT, hT, dT⟩ := dp_lst dts
    obtain rfl : T' = T2 := V.ref.inj eT
    simp only [gName, List.set]
    refine ⟨_, rfl, _, rfl, _, rfl, ?_⟩
    dsimp only [tNil, List.append_nil]
    refine worked_told (dp_off dv) pal (dp_off dps) pok (off_sub.seq hT) (dpAll_same off_sub dT) l12 tok fun H8 t d s8 X => ?_
    have bd := X.d.bd pal pok l12 tok und
    have fine := gd_fineW (show 1000 ≤ 10 ^ 12 by decide) _ bd.t.g
    have dep : d.depth ≤ 60 := Nat.le_trans bd.t.d (by decide)
    have cst : costAll.cost d ≤ 16777216 := Nat.le_trans bd.t.c (by decide)
    refine ⟨_, rfl, t, d, rfl, X.dp, fine, dep, cst, ?_⟩
    simp only [gName, List.set]
    obtain ⟨σ7, eσ⟩ : ∃ σ7, σ7 = [some (.ref b), some v, some (.ref PP), some (.bl own), some (.ref N), some (.ref T'), some hd, some (.ref t), some (.str d.shown), v9] := ⟨_, rfl⟩
    refine seq_mid (fun σ Hx => σ = σ7 ∧ Same H7 Hx ∧ TdX K cs ps tms H7 Hx t d) (fun Nx hNx => ?_) (fun σ H9 h => ?_)
    · refine ⟨_, rfl, _, rfl, _, rfl, _, rfl, v, PP, T', t, tx, cs, ws, ps, tms, rfl, dp_same s8 (dp_off dv), pal, unc, dp_same s8 (dp_off dps), pok, s8.seq (off_sub.seq hT), dpAll_same s8 (dpAll_same off_sub dT), by omega, tok, und, X.r, fun H9 s9 => ?_⟩
      have X := X.same s9
      have s8 := s8.trans s9
      refine ⟨_, rfl, iteF ⟨_, rfl, _, rfl, ?_⟩⟩
      cases own with
      | false => exact iteF (hNx _ _ ⟨eσ.symm, s8, X⟩)
      | true =>
        refine iteT ?_
        rcases X with ⟨R, us, rs, nn, zs, n0, ht, hR, e, dR, l, A, T⟩ | ⟨h, z, S, x, L, n0, ht, hx, hL, e, T, K1, K2⟩
        · exact ⟨_, rfl, t, _, 1, .non, rfl, rfl, .inl (.inl ht), rfl, rfl, _, rfl, iteF (hNx _ _ ⟨eσ.symm, s8, .inl ⟨R, us, rs, nn, zs, n0, ht, hR, e, dR, l, A, T⟩⟩)⟩
        · cases told_uniq (own0 rfl) T
    obtain ⟨rfl, s9, X⟩ := h
    subst eσ
    have td := X.d
    refine seq_mid (fun σ Hx => σ = [some (.ref b), some v, some (.ref PP), some (.bl own), some (.ref N), some (.ref T'), some hd, some (.ref t), some (.str d.shown), v9] ∧ Same H7 Hx) (fun Nx hNx => ?_) (fun σ H10 h => ?_)
    · rcases X with ⟨R, us, rs, nn, zs, n0, ht, hR, e, dR, l, A, T⟩ | ⟨h, z, S, x, L, n0, ht, hx, hL, e, T, K1, K2⟩
      · refine ⟨_, rfl, t, _, 1, .non, rfl, rfl, .inl (.inl ht), rfl, rfl, _, rfl, iteT ?_⟩
        have tR : t ≠ R := fun z => by rw [z, hR] at ht; cases ht
        have lus : us.length ≤ 24000 := by rw [dpAll_map_len dR, List.length_mergeSort]; exact l
        refine ⟨_, rfl, t, _, 0, .ref R, rfl, rfl, .inl (.inl ht), rfl, .inl ⟨rfl, _, SqL.of hR⟩, R, _, rfl, rfl, hR, ?_⟩
        have ht2 : upd H9 R (.lst us.reverse) t = some (.tup [.ref R, .non]) := by rw [upd_ne tR]; exact ht
        refine ⟨_, rfl, t, _, 0, .ref R, rfl, rfl, .inl (.inl ht2), rfl, .inl ⟨rfl, _, SqL.of upd_same⟩, R, _, _, rfl, rfl, upd_same, (by rw [List.length_reverse, sizeLine_eq]; omega), ?_⟩
        exact hNx _ _ ⟨rfl, same_put (same_put s9 n0) n0⟩
      · refine ⟨_, rfl, t, _, 1, .ref x, rfl, rfl, .inl (.inl ht), rfl, rfl, _, rfl, iteF ?_⟩
        have lS : (natSort S).length ≤ 60 := by
          rw [(natSort_perm _).length_eq]
          have lt := K1.lt
          rw [cwL_len] at lt
          have := nodup_leG41 K1.nd (ts := List.range 60) fun x hx => List.mem_range.mpr (by have := K1.le x hx; omega)
          rwa [List.length_range] at this
        refine ⟨_, rfl, t, _, 1, .ref x, rfl, rfl, .inl (.inl ht), rfl, x, _, 2, .ref L, rfl, rfl, .inl (.inl hx), rfl, .inl ⟨rfl, _, SqL.of hL⟩, L, _, _, rfl, rfl, hL, (by rw [List.length_map, sizeLine_eq]; omega), ?_⟩
        exact hNx _ _ ⟨rfl, same_put s9 n0⟩
    obtain ⟨rfl, s10⟩ := h
    have B := B.same s10
    have sc := sc.trans (sm_of s10)
    have dv := dp_same (sm_of (S := [b]) s10) dv
    have dps := dp_same (sm_of (S := [b]) s10) dps
    have dts := dp_same (sm_of (S := [b]) s10) dts
    have dh := dp_same (sm_of (S := [b]) s10) dh
    have hT := (sm_of (S := [b]) s10).seq hT
    have dT := dpAll_same (sm_of (S := [b]) s10) dT
    refine ⟨_, rfl, _, rfl, _, rfl, ?_⟩
    dsimp only [tNil, List.append_nil]
    refine worked_told (dp_off dv) pal (dp_off dps) pok (off_sub.seq hT) (dpAll_same off_sub dT) l12 tok fun H11 t2 d2 s11 X2 => ?_
    obtain rfl := td.uniq X2.d
    refine ⟨t2, d, rfl, X2.dp, fine, dep, cst, _, rfl, rfl, _, rfl, ?_⟩
    rw [decide_eq_true rfl]
    have B := B.same s11
    have sc := sc.trans (sm_of s11)
    have dv := dp_same (sm_of (S := [b]) s11) dv
    have dps := dp_same (sm_of (S := [b]) s11) dps
    have dts := dp_same (sm_of (S := [b]) s11) dts
    have dh := dp_same (sm_of (S := [b]) s11) dh
    refine iteT ⟨_, rfl, _, rfl, _, rfl, (by show 3 ≤ sizeLine; decide), fun a9 na9 => ?_⟩
    have fa := off_new (o := .lst [v, .ref PP, .ref T']) (Live.pw B) na9
    have sa := sm_put (S := [b]) (o := .lst [v, .ref PP, .ref T']) na9
    refine ⟨_, rfl, allD cs ws ps tms, allD cs ws ps tms, dp_off (S := [b]) (.lst (SqL.of fa) (.cons (dp_same sa dv) (.cons (dp_same sa dps) (.cons (dp_same sa dts) .nil)))), dp_off (dp_same sa dh), bd_shaped bda (by decide), bd_shaped bda (by decide), ?_⟩
    rw [SeqAt.eqv_refl _ (gd_lay _ bda.t.g)]
    exact q _ ((B.put na9).mono (by omega)) (sc.trans sa)

end
end Pot

namespace Pot
open PySem PySem.Spec PyProof.Rows L2
section
variable {P : Program} {w : World} {K : PySem.W.Frag} {mg : Str → Option Value} {base : Heap}
abbrev s_law : Stmt := topS 37
def n_law : List Str := ["_law_script", "_law_cells_here", "_law_k", "_law_box_here", "_law_turn"]
theorem sc_law : FnScope n_law ["_law_script"] (defScope s_law) := ⟨rfl, rfl, rfl, by decide +kernel, rfl, by decide +kernel, by decide +kernel⟩
def spLaw (K : PySem.W.Frag) : Sp := fun vs H Q _ => ∃ (a : Addr) (ns : List Int), vs = [.ref a] ∧ SqL K H a (ns.map V.int) ∧ ns.length ≤ 63 ∧ ∀ H', Q (.bl true) H'
theorem ok_law {f : Addr} {fd : FuncData} {k : Nat} (F : Fun K "law" "law" s_law f fd) (T : Txt mg) (c__law_cells : Cl P w K mg base (k + 1) "_law_cells" (spCells K)) (c__law_box : Cl P w K mg base (k + 1) "_law_box" (spBox K)) (c__law_right : ClG P w K mg base (k + 8) "_law_right" [] spRight) : FnG P w K mg base (k + 9) f fd ["_law_script"] (spLaw K) := by
  refine okG F sc_law (fun vs H Q E h => ?_) (fun cdv A outer s H vs Q gd hr h => ?_)
  · obtain ⟨a, ns, rfl, _⟩ := h
    rfl
  · obtain ⟨a, ns, rfl, hS, h63, q⟩ := h
    have nd := sc_law.nd
    refine ⟨_, (pss_cons (ps_set (i := 1) nd rfl (.inl rfl) (pe_cl c__law_cells hr (by omega) (by rfl) (pa_cons (pv 0) (pa_cons pe_int pa_nil))))
      (pss_cons (ps_for PassesOwn.never rfl (pi_range1 (by rfl) T.range (pa_cons (pe_callB (kc_len (K := K)) (by rfl) T.len PySem.boot_len (pa_cons (pv 1) pa_nil)) pa_nil)) (pg_name (i := 2) nd rfl (.inl rfl))
          (pss_cons (ps_set (i := 3) nd rfl (.inr rfl) (pe_cl c__law_box hr (by omega) (by rfl) (pa_cons (pv 1) (pa_cons (pv 2) pa_nil))))
          (pss_one (ps_if (pt_not (pt_val (pe_callB (kc_all (K := K)) (by rfl) T.all (by decide +kernel) (pa_cons (pe_lc (own := [("_law_turn", 4)]) rfl nd (pi_range1 (by rfl) T.range (pa_cons pe_int pa_nil)) (blkOk_by (N := n_law) (sc := defScope s_law) (by decide +kernel)) (fun _ _ _ _ _ => (pg_name (i := 4) nd rfl (.inl rfl))) (fun _ _ _ _ _ => pts_nil) (fun _ _ _ _ _ => (pe_clG c__law_right hr gd (by omega) (by rfl) (pa_cons (pv 3) pa_nil)))) pa_nil))))
              pss_never
              pss_nil))))
      (pss_one (ps_ret pe_bl)))), ?_⟩
    refine ⟨_, rfl, a, ns, rfl, hS, h63, fun H1 c ms s1 nc hc l1 l2 => ?_⟩
    refine ⟨_, rfl, _, _, rfl, .inl ⟨_, SqL.of hc, rfl⟩, _, rfl, (by rw [List.length_map]; omega), (by rw [List.length_map]; omega), ?_⟩
    refine for_it walk_range (fun i σ H2 => ∃ v2 v3, σ = [some (.ref a), some (.ref c), v2, v3, none] ∧ H2 c = some (.lst (ms.map V.int))) ⟨none, none, rfl, hc⟩ (fun _ _ _ _ _ => trivial) ?_ ?_
    · rintro i x σ H2 H3 hi ⟨v2, v3, rfl, hc⟩ ⟨rfl, rfl⟩
      have hi2 : i < ms.length := by rw [List.length_map] at hi; omega
      refine ⟨_, rfl, _, rfl, c, ms, i, (by show [V.ref c, V.int ((0 : Int) + (i : Nat))] = _; rw [Int.zero_add]), SqL.of hc, hi2, by omega, fun H4 b s4 nb B => ?_⟩
      have hc := s4 _ _ hc
      have cb : c ≠ b := ne_of_none (by assumption) nb
      refine ⟨_, rfl, (by decide), (by decide), fun D nD => ?_⟩
      have Db : D ≠ b := B.ne nD
      have Dc : c ≠ D := ne_of_none hc nD
      refine lc_it walk_range (fun j H5 => Bp H5 b (2000 * j) ∧ H5 c = some (.lst (ms.map V.int)) ∧ H5 D = some (.lst ((List.replicate j true).map V.bl))) ⟨B.put nD, same_upd nD _ _ hc, upd_same⟩ (fun _ _ _ _ => trivial) ?_ ?_
      · rintro j y H5 H6 hj ⟨B, hc, hD⟩ ⟨rfl, rfl⟩
        have hj4 : j < 3 := hj
        refine ⟨rfl, tYes_at ?_⟩
        rw [if_pos rfl]
        refine ⟨_, rfl, b, _, rfl, B, by omega, fun H7 B7 s7 => ?_⟩
        have hc := sm1_at s7 cb hc
        have hD := sm1_at s7 Db hD
        refine ⟨_, hD, ?_, (B7.wr Db).mono (by omega), (by rw [upd_ne Dc]; exact hc), ?_⟩
        · rw [List.length_map, List.length_replicate, sizeLine_eq]; omega
        · rw [upd_same, List.replicate_succ', List.map_append]; rfl
      · rintro H5 ⟨B, hc, hD⟩
        refine ⟨D, _, rfl, SqL.of hD, _, rfl, ?_⟩
        have e : (List.replicate ((3 : Int).toNat) true).all id = true := by decide
        rw [e]
        refine iteF ?_
        exact ⟨_, _, rfl, hc⟩
    · rintro σ H2 ⟨v2, v3, rfl, hc⟩
      exact q _

end
end Pot

namespace Pot
open PySem PySem.Spec PyProof.Rows L2
set_option maxHeartbeats 4000000 in
theorem all_mk {l : PySem.W.OpenLaw} {w : World} {K : PySem.W.Frag} {h : Heap} {mg : Str → Option Value} {fa : Addr} (X : K.In h) (G : h.Ns mainGlobals mg) (hfa : mg "law" = some (.ref fa))
    {f1 : Addr} {od1 an1 : Option Addr} {sl1 : Array (Option Value)} {oc1 kV1 dc1 pm1 cd1 ct1 : Value}
    {f2 : Addr} {od2 an2 : Option Addr} {sl2 : Array (Option Value)} {oc2 kV2 dc2 pm2 cd2 ct2 : Value}
    {f3 : Addr} {od3 an3 : Option Addr} {sl3 : Array (Option Value)} {oc3 kV3 dc3 pm3 cd3 ct3 : Value}
    {f4 : Addr} {od4 an4 : Option Addr} {sl4 : Array (Option Value)} {oc4 kV4 dc4 pm4 cd4 ct4 : Value}
    {f5 : Addr} {od5 an5 : Option Addr} {sl5 : Array (Option Value)} {oc5 kV5 dc5 pm5 cd5 ct5 : Value}
    {f6 : Addr} {od6 an6 : Option Addr} {sl6 : Array (Option Value)} {oc6 kV6 dc6 pm6 cd6 ct6 : Value}
    {f7 : Addr} {od7 an7 : Option Addr} {sl7 : Array (Option Value)} {oc7 kV7 dc7 pm7 cd7 ct7 : Value}
    {f8 : Addr} {od8 an8 : Option Addr} {sl8 : Array (Option Value)} {oc8 kV8 dc8 pm8 cd8 ct8 : Value}
    {T8 : Addr} {ocT8 : Value} {odT8 : Option Addr} {slT8 : Array (Option Value)} {nT8 : Nat}
    {tk8_0 : Tok}
    {f9 : Addr} {od9 an9 : Option Addr} {sl9 : Array (Option Value)} {oc9 kV9 dc9 pm9 cd9 ct9 : Value}
    {f10 : Addr} {od10 an10 : Option Addr} {sl10 : Array (Option Value)} {oc10 kV10 dc10 pm10 cd10 ct10 : Value}
    {f11 : Addr} {od11 an11 : Option Addr} {sl11 : Array (Option Value)} {oc11 kV11 dc11 pm11 cd11 ct11 : Value}
    {f12 : Addr} {od12 an12 : Option Addr} {sl12 : Array (Option Value)} {oc12 kV12 dc12 pm12 cd12 ct12 : Value}
    {f13 : Addr} {od13 an13 : Option Addr} {sl13 : Array (Option Value)} {oc13 kV13 dc13 pm13 cd13 ct13 : Value}
    {f14 : Addr} {od14 an14 : Option Addr} {sl14 : Array (Option Value)} {oc14 kV14 dc14 pm14 cd14 ct14 : Value}
    {f15 : Addr} {od15 an15 : Option Addr} {sl15 : Array (Option Value)} {oc15 kV15 dc15 pm15 cd15 ct15 : Value}
    {f16 : Addr} {od16 an16 : Option Addr} {sl16 : Array (Option Value)} {oc16 kV16 dc16 pm16 cd16 ct16 : Value}
    {f17 : Addr} {od17 an17 : Option Addr} {sl17 : Array (Option Value)} {oc17 kV17 dc17 pm17 cd17 ct17 : Value}
    {f18 : Addr} {od18 an18 : Option Addr} {sl18 : Array (Option Value)} {oc18 kV18 dc18 pm18 cd18 ct18 : Value}
    {f19 : Addr} {od19 an19 : Option Addr} {sl19 : Array (Option Value)} {oc19 kV19 dc19 pm19 cd19 ct19 : Value}
    {f20 : Addr} {od20 an20 : Option Addr} {sl20 : Array (Option Value)} {oc20 kV20 dc20 pm20 cd20 ct20 : Value}
    {f21 : Addr} {od21 an21 : Option Addr} {sl21 : Array (Option Value)} {oc21 kV21 dc21 pm21 cd21 ct21 : Value}
    {f22 : Addr} {od22 an22 : Option Addr} {sl22 : Array (Option Value)} {oc22 kV22 dc22 pm22 cd22 ct22 : Value}
    {f23 : Addr} {od23 an23 : Option Addr} {sl23 : Array (Option Value)} {oc23 kV23 dc23 pm23 cd23 ct23 : Value}
    {f24 : Addr} {od24 an24 : Option Addr} {sl24 : Array (Option Value)} {oc24 kV24 dc24 pm24 cd24 ct24 : Value}
    {f25 : Addr} {od25 an25 : Option Addr} {sl25 : Array (Option Value)} {oc25 kV25 dc25 pm25 cd25 ct25 : Value}
    {f26 : Addr} {od26 an26 : Option Addr} {sl26 : Array (Option Value)} {oc26 kV26 dc26 pm26 cd26 ct26 : Value}
    {f27 : Addr} {od27 an27 : Option Addr} {sl27 : Array (Option Value)} {oc27 kV27 dc27 pm27 cd27 ct27 : Value}
    {f28 : Addr} {od28 an28 : Option Addr} {sl28 : Array (Option Value)} {oc28 kV28 dc28 pm28 cd28 ct28 : Value}
    {f29 : Addr} {od29 an29 : Option Addr} {sl29 : Array (Option Value)} {oc29 kV29 dc29 pm29 cd29 ct29 : Value}
    {f30 : Addr} {od30 an30 : Option Addr} {sl30 : Array (Option Value)} {oc30 kV30 dc30 pm30 cd30 ct30 : Value}
    {f31 : Addr} {od31 an31 : Option Addr} {sl31 : Array (Option Value)} {oc31 kV31 dc31 pm31 cd31 ct31 : Value}
    {f32 : Addr} {od32 an32 : Option Addr} {sl32 : Array (Option Value)} {oc32 kV32 dc32 pm32 cd32 ct32 : Value}
    (a1 : PySem.W.nsIn K mainGlobals "served" = some (some (.ref f1))) (l1 : K.lookup f1 = some ⟨oc1, od1, .func (PySem.W.fnOf "served" "served" (defArgs s_served) (defBody s_served) (defScope s_served) .none kV1 dc1 pm1 an1 cd1 ct1), sl1⟩) (c1 : PySem.W.codeIn K cd1 "served" = true) (k1 : PySem.W.keepIn K (.ref f1) = true)
    (a2 : PySem.W.nsIn K mainGlobals "serve_one" = some (some (.ref f2))) (l2 : K.lookup f2 = some ⟨oc2, od2, .func (PySem.W.fnOf "serve_one" "serve_one" (defArgs s_serve_one) (defBody s_serve_one) (defScope s_serve_one) .none kV2 dc2 pm2 an2 cd2 ct2), sl2⟩) (c2 : PySem.W.codeIn K cd2 "serve_one" = true) (k2 : PySem.W.keepIn K (.ref f2) = true)
    (a3 : PySem.W.nsIn K mainGlobals "unused_at" = some (some (.ref f3))) (l3 : K.lookup f3 = some ⟨oc3, od3, .func (PySem.W.fnOf "unused_at" "unused_at" (defArgs s_unused_at) (defBody s_unused_at) (defScope s_unused_at) .none kV3 dc3 pm3 an3 cd3 ct3), sl3⟩) (c3 : PySem.W.codeIn K cd3 "unused_at" = true) (k3 : PySem.W.keepIn K (.ref f3) = true)
    (a4 : PySem.W.nsIn K mainGlobals "hours_of" = some (some (.ref f4))) (l4 : K.lookup f4 = some ⟨oc4, od4, .func (PySem.W.fnOf "hours_of" "hours_of" (defArgs s_hours_of) (defBody s_hours_of) (defScope s_hours_of) .none kV4 dc4 pm4 an4 cd4 ct4), sl4⟩) (c4 : PySem.W.codeIn K cd4 "hours_of" = true) (k4 : PySem.W.keepIn K (.ref f4) = true)
    (a5 : PySem.W.nsIn K mainGlobals "hand_on" = some (some (.ref f5))) (l5 : K.lookup f5 = some ⟨oc5, od5, .func (PySem.W.fnOf "hand_on" "hand_on" (defArgs s_hand_on) (defBody s_hand_on) (defScope s_hand_on) .none kV5 dc5 pm5 an5 cd5 ct5), sl5⟩) (c5 : PySem.W.codeIn K cd5 "hand_on" = true) (k5 : PySem.W.keepIn K (.ref f5) = true)
    (a6 : PySem.W.nsIn K mainGlobals "colour_row" = some (some (.ref f6))) (l6 : K.lookup f6 = some ⟨oc6, od6, .func (PySem.W.fnOf "colour_row" "colour_row" (defArgs s_colour_row) (defBody s_colour_row) (defScope s_colour_row) .none kV6 dc6 pm6 an6 cd6 ct6), sl6⟩) (c6 : PySem.W.codeIn K cd6 "colour_row" = true) (k6 : PySem.W.keepIn K (.ref f6) = true)
    (a7 : PySem.W.nsIn K mainGlobals "offers_of" = some (some (.ref f7))) (l7 : K.lookup f7 = some ⟨oc7, od7, .func (PySem.W.fnOf "offers_of" "offers_of" (defArgs s_offers_of) (defBody s_offers_of) (defScope s_offers_of) .none kV7 dc7 pm7 an7 cd7 ct7), sl7⟩) (c7 : PySem.W.codeIn K cd7 "offers_of" = true) (k7 : PySem.W.keepIn K (.ref f7) = true)
    (a8 : PySem.W.nsIn K mainGlobals "wants_of" = some (some (.ref f8))) (l8 : K.lookup f8 = some ⟨oc8, od8, .func (PySem.W.fnOf "wants_of" "wants_of" (defArgs s_wants_of) (defBody s_wants_of) (defScope s_wants_of) (.ref T8) kV8 dc8 pm8 an8 cd8 ct8), sl8⟩) (c8 : PySem.W.codeIn K cd8 "wants_of" = true) (k8 : PySem.W.keepIn K (.ref f8) = true)
    (t8 : K.lookup T8 = some ⟨ocT8, odT8, .seq #[.int 60 tk8_0] nT8, slT8⟩)
    (a9 : PySem.W.nsIn K mainGlobals "worked_by" = some (some (.ref f9))) (l9 : K.lookup f9 = some ⟨oc9, od9, .func (PySem.W.fnOf "worked_by" "worked_by" (defArgs s_worked_by) (defBody s_worked_by) (defScope s_worked_by) .none kV9 dc9 pm9 an9 cd9 ct9), sl9⟩) (c9 : PySem.W.codeIn K cd9 "worked_by" = true) (k9 : PySem.W.keepIn K (.ref f9) = true)
    (a10 : PySem.W.nsIn K mainGlobals "wanting" = some (some (.ref f10))) (l10 : K.lookup f10 = some ⟨oc10, od10, .func (PySem.W.fnOf "wanting" "wanting" (defArgs s_wanting) (defBody s_wanting) (defScope s_wanting) .none kV10 dc10 pm10 an10 cd10 ct10), sl10⟩) (c10 : PySem.W.codeIn K cd10 "wanting" = true) (k10 : PySem.W.keepIn K (.ref f10) = true)
    (a11 : PySem.W.nsIn K mainGlobals "rows_of" = some (some (.ref f11))) (l11 : K.lookup f11 = some ⟨oc11, od11, .func (PySem.W.fnOf "rows_of" "rows_of" (defArgs s_rows_of) (defBody s_rows_of) (defScope s_rows_of) .none kV11 dc11 pm11 an11 cd11 ct11), sl11⟩) (c11 : PySem.W.codeIn K cd11 "rows_of" = true) (k11 : PySem.W.keepIn K (.ref f11) = true)
    (a12 : PySem.W.nsIn K mainGlobals "_law_box" = some (some (.ref f12))) (l12 : K.lookup f12 = some ⟨oc12, od12, .func (PySem.W.fnOf "_law_box" "_law_box" (defArgs s__law_box) (defBody s__law_box) (defScope s__law_box) .none kV12 dc12 pm12 an12 cd12 ct12), sl12⟩) (c12 : PySem.W.codeIn K cd12 "_law_box" = true) (k12 : PySem.W.keepIn K (.ref f12) = true)
    (a13 : PySem.W.nsIn K mainGlobals "_law_take" = some (some (.ref f13))) (l13 : K.lookup f13 = some ⟨oc13, od13, .func (PySem.W.fnOf "_law_take" "_law_take" (defArgs s__law_take) (defBody s__law_take) (defScope s__law_take) .none kV13 dc13 pm13 an13 cd13 ct13), sl13⟩) (c13 : PySem.W.codeIn K cd13 "_law_take" = true) (k13 : PySem.W.keepIn K (.ref f13) = true)
    (a14 : PySem.W.nsIn K mainGlobals "_law_cells" = some (some (.ref f14))) (l14 : K.lookup f14 = some ⟨oc14, od14, .func (PySem.W.fnOf "_law_cells" "_law_cells" (defArgs s__law_cells) (defBody s__law_cells) (defScope s__law_cells) .none kV14 dc14 pm14 an14 cd14 ct14), sl14⟩) (c14 : PySem.W.codeIn K cd14 "_law_cells" = true) (k14 : PySem.W.keepIn K (.ref f14) = true)
    (a15 : PySem.W.nsIn K mainGlobals "_law_names" = some (some (.ref f15))) (l15 : K.lookup f15 = some ⟨oc15, od15, .func (PySem.W.fnOf "_law_names" "_law_names" (defArgs s__law_names) (defBody s__law_names) (defScope s__law_names) .none kV15 dc15 pm15 an15 cd15 ct15), sl15⟩) (c15 : PySem.W.codeIn K cd15 "_law_names" = true) (k15 : PySem.W.keepIn K (.ref f15) = true)
    (a16 : PySem.W.nsIn K mainGlobals "_law_palette" = some (some (.ref f16))) (l16 : K.lookup f16 = some ⟨oc16, od16, .func (PySem.W.fnOf "_law_palette" "_law_palette" (defArgs s__law_palette) (defBody s__law_palette) (defScope s__law_palette) .none kV16 dc16 pm16 an16 cd16 ct16), sl16⟩) (c16 : PySem.W.codeIn K cd16 "_law_palette" = true) (k16 : PySem.W.keepIn K (.ref f16) = true)
    (a17 : PySem.W.nsIn K mainGlobals "_law_wash" = some (some (.ref f17))) (l17 : K.lookup f17 = some ⟨oc17, od17, .func (PySem.W.fnOf "_law_wash" "_law_wash" (defArgs s__law_wash) (defBody s__law_wash) (defScope s__law_wash) .none kV17 dc17 pm17 an17 cd17 ct17), sl17⟩) (c17 : PySem.W.codeIn K cd17 "_law_wash" = true) (k17 : PySem.W.keepIn K (.ref f17) = true)
    (a18 : PySem.W.nsIn K mainGlobals "_law_pot" = some (some (.ref f18))) (l18 : K.lookup f18 = some ⟨oc18, od18, .func (PySem.W.fnOf "_law_pot" "_law_pot" (defArgs s__law_pot) (defBody s__law_pot) (defScope s__law_pot) .none kV18 dc18 pm18 an18 cd18 ct18), sl18⟩) (c18 : PySem.W.codeIn K cd18 "_law_pot" = true) (k18 : PySem.W.keepIn K (.ref f18) = true)
    (a19 : PySem.W.nsIn K mainGlobals "_law_pots" = some (some (.ref f19))) (l19 : K.lookup f19 = some ⟨oc19, od19, .func (PySem.W.fnOf "_law_pots" "_law_pots" (defArgs s__law_pots) (defBody s__law_pots) (defScope s__law_pots) .none kV19 dc19 pm19 an19 cd19 ct19), sl19⟩) (c19 : PySem.W.codeIn K cd19 "_law_pots" = true) (k19 : PySem.W.keepIn K (.ref f19) = true)
    (a20 : PySem.W.nsIn K mainGlobals "_law_team" = some (some (.ref f20))) (l20 : K.lookup f20 = some ⟨oc20, od20, .func (PySem.W.fnOf "_law_team" "_law_team" (defArgs s__law_team) (defBody s__law_team) (defScope s__law_team) .none kV20 dc20 pm20 an20 cd20 ct20), sl20⟩) (c20 : PySem.W.codeIn K cd20 "_law_team" = true) (k20 : PySem.W.keepIn K (.ref f20) = true)
    (a21 : PySem.W.nsIn K mainGlobals "_law_turns_of" = some (some (.ref f21))) (l21 : K.lookup f21 = some ⟨oc21, od21, .func (PySem.W.fnOf "_law_turns_of" "_law_turns_of" (defArgs s__law_turns_of) (defBody s__law_turns_of) (defScope s__law_turns_of) .none kV21 dc21 pm21 an21 cd21 ct21), sl21⟩) (c21 : PySem.W.codeIn K cd21 "_law_turns_of" = true) (k21 : PySem.W.keepIn K (.ref f21) = true)
    (a22 : PySem.W.nsIn K mainGlobals "_law_wants" = some (some (.ref f22))) (l22 : K.lookup f22 = some ⟨oc22, od22, .func (PySem.W.fnOf "_law_wants" "_law_wants" (defArgs s__law_wants) (defBody s__law_wants) (defScope s__law_wants) .none kV22 dc22 pm22 an22 cd22 ct22), sl22⟩) (c22 : PySem.W.codeIn K cd22 "_law_wants" = true) (k22 : PySem.W.keepIn K (.ref f22) = true)
    (a23 : PySem.W.nsIn K mainGlobals "_law_copied" = some (some (.ref f23))) (l23 : K.lookup f23 = some ⟨oc23, od23, .func (PySem.W.fnOf "_law_copied" "_law_copied" (defArgs s__law_copied) (defBody s__law_copied) (defScope s__law_copied) .none kV23 dc23 pm23 an23 cd23 ct23), sl23⟩) (c23 : PySem.W.codeIn K cd23 "_law_copied" = true) (k23 : PySem.W.keepIn K (.ref f23) = true)
    (a24 : PySem.W.nsIn K mainGlobals "_law_room" = some (some (.ref f24))) (l24 : K.lookup f24 = some ⟨oc24, od24, .func (PySem.W.fnOf "_law_room" "_law_room" (defArgs s__law_room) (defBody s__law_room) (defScope s__law_room) .none kV24 dc24 pm24 an24 cd24 ct24), sl24⟩) (c24 : PySem.W.codeIn K cd24 "_law_room" = true) (k24 : PySem.W.keepIn K (.ref f24) = true)
    (a25 : PySem.W.nsIn K mainGlobals "_law_is_number" = some (some (.ref f25))) (l25 : K.lookup f25 = some ⟨oc25, od25, .func (PySem.W.fnOf "_law_is_number" "_law_is_number" (defArgs s__law_is_number) (defBody s__law_is_number) (defScope s__law_is_number) .none kV25 dc25 pm25 an25 cd25 ct25), sl25⟩) (c25 : PySem.W.codeIn K cd25 "_law_is_number" = true) (k25 : PySem.W.keepIn K (.ref f25) = true)
    (a26 : PySem.W.nsIn K mainGlobals "_law_are_rising" = some (some (.ref f26))) (l26 : K.lookup f26 = some ⟨oc26, od26, .func (PySem.W.fnOf "_law_are_rising" "_law_are_rising" (defArgs s__law_are_rising) (defBody s__law_are_rising) (defScope s__law_are_rising) .none kV26 dc26 pm26 an26 cd26 ct26), sl26⟩) (c26 : PySem.W.codeIn K cd26 "_law_are_rising" = true) (k26 : PySem.W.keepIn K (.ref f26) = true)
    (a27 : PySem.W.nsIn K mainGlobals "_law_is_lack" = some (some (.ref f27))) (l27 : K.lookup f27 = some ⟨oc27, od27, .func (PySem.W.fnOf "_law_is_lack" "_law_is_lack" (defArgs s__law_is_lack) (defBody s__law_is_lack) (defScope s__law_is_lack) .none kV27 dc27 pm27 an27 cd27 ct27), sl27⟩) (c27 : PySem.W.codeIn K cd27 "_law_is_lack" = true) (k27 : PySem.W.keepIn K (.ref f27) = true)
    (a28 : PySem.W.nsIn K mainGlobals "_law_is_work" = some (some (.ref f28))) (l28 : K.lookup f28 = some ⟨oc28, od28, .func (PySem.W.fnOf "_law_is_work" "_law_is_work" (defArgs s__law_is_work) (defBody s__law_is_work) (defScope s__law_is_work) .none kV28 dc28 pm28 an28 cd28 ct28), sl28⟩) (c28 : PySem.W.codeIn K cd28 "_law_is_work" = true) (k28 : PySem.W.keepIn K (.ref f28) = true)
    (a29 : PySem.W.nsIn K mainGlobals "_law_own_teams" = some (some (.ref f29))) (l29 : K.lookup f29 = some ⟨oc29, od29, .func (PySem.W.fnOf "_law_own_teams" "_law_own_teams" (defArgs s__law_own_teams) (defBody s__law_own_teams) (defScope s__law_own_teams) .none kV29 dc29 pm29 an29 cd29 ct29), sl29⟩) (c29 : PySem.W.codeIn K cd29 "_law_own_teams" = true) (k29 : PySem.W.keepIn K (.ref f29) = true)
    (a30 : PySem.W.nsIn K mainGlobals "_law_told_right" = some (some (.ref f30))) (l30 : K.lookup f30 = some ⟨oc30, od30, .func (PySem.W.fnOf "_law_told_right" "_law_told_right" (defArgs s__law_told_right) (defBody s__law_told_right) (defScope s__law_told_right) .none kV30 dc30 pm30 an30 cd30 ct30), sl30⟩) (c30 : PySem.W.codeIn K cd30 "_law_told_right" = true) (k30 : PySem.W.keepIn K (.ref f30) = true)
    (a31 : PySem.W.nsIn K mainGlobals "_law_right" = some (some (.ref f31))) (l31 : K.lookup f31 = some ⟨oc31, od31, .func (PySem.W.fnOf "_law_right" "_law_right" (defArgs s__law_right) (defBody s__law_right) (defScope s__law_right) .none kV31 dc31 pm31 an31 cd31 ct31), sl31⟩) (c31 : PySem.W.codeIn K cd31 "_law_right" = true) (k31 : PySem.W.keepIn K (.ref f31) = true)
    (a32 : PySem.W.nsIn K mainGlobals "law" = some (some (.ref f32))) (l32 : K.lookup f32 = some ⟨oc32, od32, .func (PySem.W.fnOf "law" "law" (defArgs s_law) (defBody s_law) (defScope s_law) .none kV32 dc32 pm32 an32 cd32 ct32), sl32⟩) (c32 : PySem.W.codeIn K cd32 "law" = true) (k32 : PySem.W.keepIn K (.ref f32) = true)
    (z1 : PySem.W.nsIn K mainGlobals "len" = some none)
    (z2 : PySem.W.nsIn K mainGlobals "divmod" = some none)
    (z3 : PySem.W.nsIn K mainGlobals "range" = some none)
    (z4 : PySem.W.nsIn K mainGlobals "sum" = some none)
    (z5 : PySem.W.nsIn K mainGlobals "all" = some none)
    (z6 : PySem.W.nsIn K mainGlobals "any" = some none)
    (z7 : PySem.W.nsIn K mainGlobals "isinstance" = some none)
    (z8 : PySem.W.nsIn K mainGlobals "str" = some none)
    (z9 : PySem.W.nsIn K mainGlobals "int" = some none)
    (z10 : PySem.W.nsIn K mainGlobals "list" = some none)
    (z11 : PySem.W.nsIn K mainGlobals "tuple" = some none)
    (z12 : PySem.W.nsIn K mainGlobals "bool" = some none)
    (z13 : PySem.W.nsIn K mainGlobals "zip" = some none)
    (z14 : PySem.W.nsIn K mainGlobals "set" = some none)
    (z15 : PySem.W.nsIn K mainGlobals "sorted" = some none)
    (z16 : PySem.W.nsIn K mainGlobals "enumerate" = some none)
    (z17 : PySem.W.nsIn K mainGlobals "repr" = some none)
    (z18 : PySem.W.nsIn K mainGlobals "min" = some none)
    (z19 : PySem.W.nsIn K mainGlobals "max" = some none)
    (z20 : PySem.W.nsIn K mainGlobals "abs" = some none)
    (zD : PySem.W.nsIn K mainGlobals "dict" = some none)
    : ∃ fd : FuncData, (∀ (s : Shared) (v : Value), BindsTo s fd ⟨[v], []⟩ [("_law_script", v)]) ∧ ∀ base : Heap, K.In base → base.Ns mainGlobals mg → FnG l.prog w K mg base 9 fa fd ["_law_script"] (spLaw K) := by
  have e := hfa.symm.trans (PySem.W.mg_of X G a32)
  cases e
  have T : Txt mg := ⟨PySem.W.mg_none_of X G z1, PySem.W.mg_none_of X G z2, PySem.W.mg_none_of X G z3, PySem.W.mg_none_of X G z4, PySem.W.mg_none_of X G z5, PySem.W.mg_none_of X G z6, PySem.W.mg_none_of X G z7, PySem.W.mg_none_of X G z8, PySem.W.mg_none_of X G z9, PySem.W.mg_none_of X G z10, PySem.W.mg_none_of X G z11, PySem.W.mg_none_of X G z12, PySem.W.mg_none_of X G z13, PySem.W.mg_none_of X G z14, PySem.W.mg_none_of X G z15, PySem.W.mg_none_of X G z16, PySem.W.mg_none_of X G z17, PySem.W.mg_none_of X G z18, PySem.W.mg_none_of X G z19, PySem.W.mg_none_of X G z20⟩
  have F1 := fun_mk (st := s_served) l1 c1 k1
  have b1 := F1.binds (ps := ["offers", "wants"]) fun _ _ _ _ _ _ us hl => match us, hl with | [_, _], _ => rfl
  have g1 := PySem.W.mg_of X G a1
  have F2 := fun_mk (st := s_serve_one) l2 c2 k2
  have b2 := F2.binds (ps := ["offers", "rows", "left", "hour"]) fun _ _ _ _ _ _ us hl => match us, hl with | [_, _, _, _], _ => rfl
  have g2 := PySem.W.mg_of X G a2
  have F3 := fun_mk (st := s_unused_at) l3 c3 k3
  have b3 := F3.binds (ps := ["offers", "rows", "hour"]) fun _ _ _ _ _ _ us hl => match us, hl with | [_, _, _], _ => rfl
  have g3 := PySem.W.mg_of X G a3
  have F4 := fun_mk (st := s_hours_of) l4 c4 k4
  have b4 := F4.binds (ps := ["rows", "number"]) fun _ _ _ _ _ _ us hl => match us, hl with | [_, _], _ => rfl
  have g4 := PySem.W.mg_of X G a4
  have F5 := fun_mk (st := s_hand_on) l5 c5 k5
  have b5 := F5.binds (ps := ["rows", "number", "asked_by", "gives_up"]) fun _ _ _ _ _ _ us hl => match us, hl with | [_, _, _, _], _ => rfl
  have g5 := PySem.W.mg_of X G a5
  have F6 := fun_mk (st := s_colour_row) l6 c6 k6
  have b6 := F6.binds (ps := ["palette", "colour"]) fun _ _ _ _ _ _ us hl => match us, hl with | [_, _], _ => rfl
  have g6 := PySem.W.mg_of X G a6
  have F7 := fun_mk (st := s_offers_of) l7 c7 k7
  have b7 := F7.binds (ps := ["palette", "pots", "colour"]) fun _ _ _ _ _ _ us hl => match us, hl with | [_, _, _], _ => rfl
  have g7 := PySem.W.mg_of X G a7
  have F8 : FunV K "wants_of" s_wants_of [.int 60] f8 _ := ⟨⟨_, _, _, _, _, _, _, _, _, _, rfl, l8, c8, .inr ⟨(by intro z; cases z), T8, _, [_], _, rfl, t8, rfl, .cons (⟨_, rfl⟩) (.nil)⟩, .inl rfl⟩, k8⟩
  obtain ⟨ds8_0, v8_0, b8_0⟩ := FunD.binds1 (ps := ["teams", "colour", "hours"]) F8 3 1 (by intro z; cases z) rfl (fun T kV doc pm an cdv ct us its hu hi => match us, hu, its, hi with | [_, _, _], _, [_], _ => ⟨_, rfl, rfl⟩)
  obtain ⟨ds8_1, v8_1, b8_1⟩ := FunD.binds1 (ps := ["teams", "colour", "hours"]) F8 2 0 (by intro z; cases z) rfl (fun T kV doc pm an cdv ct us its hu hi => match us, hu, its, hi with | [_, _], _, [_], _ => ⟨_, rfl, rfl⟩)
  have g8 := PySem.W.mg_of X G a8
  have F9 := fun_mk (st := s_worked_by) l9 c9 k9
  have b9 := F9.binds (ps := ["palette", "pots", "teams"]) fun _ _ _ _ _ _ us hl => match us, hl with | [_, _, _], _ => rfl
  have g9 := PySem.W.mg_of X G a9
  have F10 := fun_mk (st := s_wanting) l10 c10 k10
  have b10 := F10.binds (ps := ["teams", "colour", "hour"]) fun _ _ _ _ _ _ us hl => match us, hl with | [_, _, _], _ => rfl
  have g10 := PySem.W.mg_of X G a10
  have F11 := fun_mk (st := s_rows_of) l11 c11 k11
  have b11 := F11.binds (ps := ["teams", "colour", "offers", "numbers"]) fun _ _ _ _ _ _ us hl => match us, hl with | [_, _, _, _], _ => rfl
  have g11 := PySem.W.mg_of X G a11
  have F12 := fun_mk (st := s__law_box) l12 c12 k12
  have b12 := F12.binds (ps := ["_law_cells_here", "_law_k"]) fun _ _ _ _ _ _ us hl => match us, hl with | [_, _], _ => rfl
  have g12 := PySem.W.mg_of X G a12
  have F13 := fun_mk (st := s__law_take) l13 c13 k13
  have b13 := F13.binds (ps := ["_law_box_here", "_law_many"]) fun _ _ _ _ _ _ us hl => match us, hl with | [_, _], _ => rfl
  have g13 := PySem.W.mg_of X G a13
  have F14 := fun_mk (st := s__law_cells) l14 c14 k14
  have b14 := F14.binds (ps := ["_law_script", "_law_most"]) fun _ _ _ _ _ _ us hl => match us, hl with | [_, _], _ => rfl
  have g14 := PySem.W.mg_of X G a14
  have F15 := fun_mk (st := s__law_names) l15 c15 k15
  have b15 := F15.binds (ps := ["_law_box_here", "_law_many"]) fun _ _ _ _ _ _ us hl => match us, hl with | [_, _], _ => rfl
  have g15 := PySem.W.mg_of X G a15
  have F16 := fun_mk (st := s__law_palette) l16 c16 k16
  have b16 := F16.binds (ps := ["_law_box_here", "_law_most"]) fun _ _ _ _ _ _ us hl => match us, hl with | [_, _], _ => rfl
  have g16 := PySem.W.mg_of X G a16
  have F17 := fun_mk (st := s__law_wash) l17 c17 k17
  have b17 := F17.binds (ps := ["_law_palette_here", "_law_ahead", "_law_behind"]) fun _ _ _ _ _ _ us hl => match us, hl with | [_, _, _], _ => rfl
  have g17 := PySem.W.mg_of X G a17
  have F18 := fun_mk (st := s__law_pot) l18 c18 k18
  have b18 := F18.binds (ps := ["_law_box_here", "_law_palette_here", "_law_counts"]) fun _ _ _ _ _ _ us hl => match us, hl with | [_, _, _], _ => rfl
  have g18 := PySem.W.mg_of X G a18
  have F19 := fun_mk (st := s__law_pots) l19 c19 k19
  have b19 := F19.binds (ps := ["_law_box_here", "_law_palette_here", "_law_most"]) fun _ _ _ _ _ _ us hl => match us, hl with | [_, _, _], _ => rfl
  have g19 := PySem.W.mg_of X G a19
  have F20 := fun_mk (st := s__law_team) l20 c20 k20
  have b20 := F20.binds (ps := ["_law_box_here", "_law_palette_here", "_law_pots_here", "_law_name"]) fun _ _ _ _ _ _ us hl => match us, hl with | [_, _, _, _], _ => rfl
  have g20 := PySem.W.mg_of X G a20
  have F21 := fun_mk (st := s__law_turns_of) l21 c21 k21
  have b21 := F21.binds (ps := ["_law_palette_here", "_law_pots_here", "_law_colour"]) fun _ _ _ _ _ _ us hl => match us, hl with | [_, _, _], _ => rfl
  have g21 := PySem.W.mg_of X G a21
  have F22 := fun_mk (st := s__law_wants) l22 c22 k22
  have b22 := F22.binds (ps := ["_law_teams", "_law_colour", "_law_hours"]) fun _ _ _ _ _ _ us hl => match us, hl with | [_, _, _], _ => rfl
  have g22 := PySem.W.mg_of X G a22
  have F23 := fun_mk (st := s__law_copied) l23 c23 k23
  have b23 := F23.binds (ps := ["_law_thing"]) fun _ _ _ _ _ _ us hl => match us, hl with | [_], _ => rfl
  have g23 := PySem.W.mg_of X G a23
  have F24 := fun_mk (st := s__law_room) l24 c24 k24
  have b24 := F24.binds (ps := ["_law_offers", "_law_hours"]) fun _ _ _ _ _ _ us hl => match us, hl with | [_, _], _ => rfl
  have g24 := PySem.W.mg_of X G a24
  have F25 := fun_mk (st := s__law_is_number) l25 c25 k25
  have b25 := F25.binds (ps := ["_law_thing", "_law_least", "_law_most"]) fun _ _ _ _ _ _ us hl => match us, hl with | [_, _, _], _ => rfl
  have g25 := PySem.W.mg_of X G a25
  have F26 := fun_mk (st := s__law_are_rising) l26 c26 k26
  have b26 := F26.binds (ps := ["_law_thing", "_law_most"]) fun _ _ _ _ _ _ us hl => match us, hl with | [_, _], _ => rfl
  have g26 := PySem.W.mg_of X G a26
  have F27 := fun_mk (st := s__law_is_lack) l27 c27 k27
  have b27 := F27.binds (ps := ["_law_offers", "_law_wants_here", "_law_thing"]) fun _ _ _ _ _ _ us hl => match us, hl with | [_, _, _], _ => rfl
  have g27 := PySem.W.mg_of X G a27
  have F28 := fun_mk (st := s__law_is_work) l28 c28 k28
  have b28 := F28.binds (ps := ["_law_palette_here", "_law_pots_here", "_law_teams", "_law_found"]) fun _ _ _ _ _ _ us hl => match us, hl with | [_, _, _, _], _ => rfl
  have g28 := PySem.W.mg_of X G a28
  have F29 := fun_mk (st := s__law_own_teams) l29 c29 k29
  have b29 := F29.binds (ps := ["_law_box_here", "_law_palette_here", "_law_pots_here", "_law_names_here"]) fun _ _ _ _ _ _ us hl => match us, hl with | [_, _, _, _], _ => rfl
  have g29 := PySem.W.mg_of X G a29
  have F30 := fun_mk (st := s__law_told_right) l30 c30 k30
  have b30 := F30.binds (ps := ["_law_palette_here", "_law_pots_here", "_law_teams", "_law_found"]) fun _ _ _ _ _ _ us hl => match us, hl with | [_, _, _, _], _ => rfl
  have g30 := PySem.W.mg_of X G a30
  have F31 := fun_mk (st := s__law_right) l31 c31 k31
  have b31 := F31.binds (ps := ["_law_box_here"]) fun _ _ _ _ _ _ us hl => match us, hl with | [_], _ => rfl
  have g31 := PySem.W.mg_of X G a31
  have F32 := fun_mk (st := s_law) l32 c32 k32
  refine ⟨PySem.W.fnOf "law" "law" (defArgs s_law) (defBody s_law) (defScope s_law) .none kV32 dc32 pm32 an32 cd32 ct32, fun s v => .of_eq rfl, fun base _ _ => ?_⟩
  have L_Dct : Dct mg := PySem.W.mg_none_of X G zD
  have c__law_cells : Cl l.prog w K mg base 1 "_law_cells" ((spCells K)) := ⟨_, _, _, ok_cells F14 T, g14, F14.kp, b14⟩
  have c__law_box : Cl l.prog w K mg base 1 "_law_box" ((spBox K)) := ⟨_, _, _, ok_box F12 T, g12, F12.kp, b12⟩
  have c__law_take : Cl l.prog w K mg base 1 "_law_take" (spTake) := ⟨_, _, _, ok_take F13, g13, F13.kp, b13⟩
  have c__law_names : Cl l.prog w K mg base 2 "_law_names" (spNames) := ⟨_, _, _, ok_names F15 T c__law_take, g15, F15.kp, b15⟩
  have c__law_palette : Cl l.prog w K mg base 3 "_law_palette" ((spPalette K)) := ⟨_, _, _, ok_palette F16 T c__law_take c__law_names, g16, F16.kp, b16⟩
  have c__law_wash : Cl l.prog w K mg base 1 "_law_wash" ((spLWash K)) := ⟨_, _, _, ok_lwash F17, g17, F17.kp, b17⟩
  have c__law_pot : Cl l.prog w K mg base 2 "_law_pot" ((spPot K)) := ⟨_, _, _, ok_pot F18 T c__law_take c__law_wash, g18, F18.kp, b18⟩
  have c__law_pots : Cl l.prog w K mg base 3 "_law_pots" ((spPots K)) := ⟨_, _, _, ok_pots F19 T c__law_take c__law_pot, g19, F19.kp, b19⟩
  have c__law_team : Cl l.prog w K mg base 2 "_law_team" ((spTeam K)) := ⟨_, _, _, ok_team F20 T c__law_take, g20, F20.kp, b20⟩
  have c__law_own_teams : Cl l.prog w K mg base 2 "_law_own_teams" ((spOwnT K)) := ⟨_, _, _, ok_ownt F29 T L_Dct c__law_take, g29, F29.kp, b29⟩
  have c__law_copied : Cl l.prog w K mg base 7 "_law_copied" (spCopied K 6) := ⟨_, _, _, ok_copied (k0 := 0) F23 T b23 g23 6, g23, F23.kp, b23⟩
  have c_colour_row_3 : Cl l.prog w K mg base 4 "colour_row" ((spColour K)) := ⟨_, _, _, ok_colour (k := 3) F6, g6, F6.kp, b6⟩
  have c_offers_of_3 : Cl l.prog w K mg base 5 "offers_of" ((spOffers K)) := ⟨_, _, _, ok_offers (k := 3) F7 T c_colour_row_3, g7, F7.kp, b7⟩
  have c_unused_at_2 : Cl l.prog w K mg base 3 "unused_at" ((spUnused K)) := ⟨_, _, _, ok_unused (k := 2) F3 T, g3, F3.kp, b3⟩
  have c_hours_of_2 : Cl l.prog w K mg base 3 "hours_of" (spHoursOf) := ⟨_, _, _, ok_hoursof (k := 2) F4 T, g4, F4.kp, b4⟩
  have c_hand_on_2 : Cl l.prog w K mg base 3 "hand_on" (spHand) := ⟨_, _, _, ok_hand (k := 2) F5 T, g5, F5.kp, b5⟩
  have c_serve_one_2 : Cl l.prog w K mg base 4 "serve_one" ((spServe K)) := ⟨_, _, _, ok_serve (k := 2) F2 T c_unused_at_2 c_hours_of_2 c_hand_on_2, g2, F2.kp, b2⟩
  have c_served_2 : Cl l.prog w K mg base 5 "served" ((spServed K)) := ⟨_, _, _, ok_served (k := 2) F1 T c_serve_one_2, g1, F1.kp, b1⟩
  have c_wanting : Cl l.prog w K mg base 1 "wanting" ((spWanting K)) := ⟨_, _, _, ok_wanting F10 T, g10, F10.kp, b10⟩
  have d_wants_of : ClD l.prog w K mg base 2 "wants_of" [.int 60] ((spWants K)) := ⟨_, _, _, _, ok_wantsof F8 T c_wanting, g8, F8.kp, b8_1, v8_1⟩
  have e_wants_of : ClD l.prog w K mg base 2 "wants_of" [] ((spWants K)) := ⟨_, _, _, _, ok_wantsof F8 T c_wanting, g8, F8.kp, b8_0, v8_0⟩
  have c_wanting_3 : Cl l.prog w K mg base 4 "wanting" ((spWanting K)) := ⟨_, _, _, ok_wanting (k := 3) F10 T, g10, F10.kp, b10⟩
  have c_rows_of_3 : Cl l.prog w K mg base 5 "rows_of" ((spRowsOf K)) := ⟨_, _, _, ok_rowsof (k := 3) F11 T c_wanting_3, g11, F11.kp, b11⟩
  have c_worked_by_1 : Cl l.prog w K mg base 6 "worked_by" ((spWorked K)) := ⟨_, _, _, ok_worked (k := 1) F9 T c_offers_of_3 c_served_2 e_wants_of c_rows_of_3, g9, F9.kp, b9⟩
  have c__law_is_number_1 : Cl l.prog w K mg base 2 "_law_is_number" ((spNum K)) := ⟨_, _, _, ok_lnum (k := 1) F25 T, g25, F25.kp, b25⟩
  have c__law_is_work_1 : Cl l.prog w K mg base 3 "_law_is_work" ((spIsW K)) := ⟨_, _, _, ok_isw (k := 1) F28 T L_Dct c__law_is_number_1, g28, F28.kp, b28⟩
  have c__law_turns_of_1 : Cl l.prog w K mg base 2 "_law_turns_of" ((spOffers K)) := ⟨_, _, _, ok_turnsof (k := 1) F21 T, g21, F21.kp, b21⟩
  have c__law_wants_1 : Cl l.prog w K mg base 2 "_law_wants" ((spWants K)) := ⟨_, _, _, ok_lwants (k := 1) F22 T, g22, F22.kp, b22⟩
  have c__law_is_number_3 : Cl l.prog w K mg base 4 "_law_is_number" ((spNum K)) := ⟨_, _, _, ok_lnum (k := 3) F25 T, g25, F25.kp, b25⟩
  have c__law_are_rising_3 : Cl l.prog w K mg base 5 "_law_are_rising" ((spLAre K)) := ⟨_, _, _, ok_lare (k := 3) F26 T c__law_is_number_3, g26, F26.kp, b26⟩
  have c__law_room_4 : Cl l.prog w K mg base 5 "_law_room" ((spMost K)) := ⟨_, _, _, ok_room (k := 4) F24 T, g24, F24.kp, b24⟩
  have c__law_is_lack_3 : Cl l.prog w K mg base 6 "_law_is_lack" ((spLack K)) := ⟨_, _, _, ok_llack (k := 3) F27 T c__law_is_number_3 c__law_are_rising_3 c__law_room_4, g27, F27.kp, b27⟩
  have c__law_told_right_1 : Cl l.prog w K mg base 7 "_law_told_right" ((spTR K)) := ⟨_, _, _, ok_tr (k := 1) F30 T c__law_is_work_1 c__law_turns_of_1 c__law_wants_1 c__law_is_lack_3, g30, F30.kp, b30⟩
  have c__law_right : ClG l.prog w K mg base 8 "_law_right" [] (spRight) := ⟨_, _, _, [], ok_right F31 T c__law_take c__law_names c__law_palette c__law_pots c__law_team c__law_own_teams c__law_copied c_worked_by_1 c__law_told_right_1, g31, F31.kp, b31, .nil⟩
  exact ok_law F32 T c__law_cells c__law_box c__law_right
end Pot
open PySem PySem.W PyProof.Rows
set_option maxRecDepth 100000 in
set_option maxHeartbeats 0 in
theorem PySem.Challenge.cw_potround_k41_teams_at_pots_holds : PySem.Challenge.rw_potround_k41_teams_at_pots.Holds := by
  w_on; o_law; k_head; (case hw => w_witness2)
  k_fill
  refine Pot.walkG (l := PySem.Challenge.rw_potround_k41_teams_at_pots) (n := 63) (k := 9) (x := "_law_script") (sp := fun w => Pot.spLaw _) rfl (by decide) rfl ⟨rfl, by decide, by decide⟩ (fun w h Y => PySem.W.kIn_of Y) ?F (fun _ _ a ns hl _ hS => ⟨a, ns, rfl, hS, hl, fun _ => rfl⟩)
  case F =>
    intro w mg fa h KX G hmg
    refine' Pot.all_mk KX G hmg ?a1 ?l1 ?c1 ?k1 ?a2 ?l2 ?c2 ?k2 ?a3 ?l3 ?c3 ?k3 ?a4 ?l4 ?c4 ?k4 ?a5 ?l5 ?c5 ?k5 ?a6 ?l6 ?c6 ?k6 ?a7 ?l7 ?c7 ?k7 ?a8 ?l8 ?c8 ?k8 ?t8 ?a9 ?l9 ?c9 ?k9 ?a10 ?l10 ?c10 ?k10 ?a11 ?l11 ?c11 ?k11 ?a12 ?l12 ?c12 ?k12 ?a13 ?l13 ?c13 ?k13 ?a14 ?l14 ?c14 ?k14 ?a15 ?l15 ?c15 ?k15 ?a16 ?l16 ?c16 ?k16 ?a17 ?l17 ?c17 ?k17 ?a18 ?l18 ?c18 ?k18 ?a19 ?l19 ?c19 ?k19 ?a20 ?l20 ?c20 ?k20 ?a21 ?l21 ?c21 ?k21 ?a22 ?l22 ?c22 ?k22 ?a23 ?l23 ?c23 ?k23 ?a24 ?l24 ?c24 ?k24 ?a25 ?l25 ?c25 ?k25 ?a26 ?l26 ?c26 ?k26 ?a27 ?l27 ?c27 ?k27 ?a28 ?l28 ?c28 ?k28 ?a29 ?l29 ?c29 ?k29 ?a30 ?l30 ?c30 ?k30 ?a31 ?l31 ?c31 ?k31 ?a32 ?l32 ?c32 ?k32 ?z1 ?z2 ?z3 ?z4 ?z5 ?z6 ?z7 ?z8 ?z9 ?z10 ?z11 ?z12 ?z13 ?z14 ?z15 ?z16 ?z17 ?z18 ?z19 ?z20 ?zD
    (case a1 => k_is)
    (case l1 => k_is)
    (case c1 => k_is)
    (case k1 => k_is)
    (case a2 => k_is)
    (case l2 => k_is)
    (case c2 => k_is)
    (case k2 => k_is)
    (case a3 => k_is)
    (case l3 => k_is)
    (case c3 => k_is)
    (case k3 => k_is)
    (case a4 => k_is)
    (case l4 => k_is)
    (case c4 => k_is)
    (case k4 => k_is)
    (case a5 => k_is)
    (case l5 => k_is)
    (case c5 => k_is)
    (case k5 => k_is)
    (case a6 => k_is)
    (case l6 => k_is)
    (case c6 => k_is)
    (case k6 => k_is)
    (case a7 => k_is)
    (case l7 => k_is)
    (case c7 => k_is)
    (case k7 => k_is)
    (case a8 => k_is)
    (case l8 => k_is)
    (case c8 => k_is)
    (case k8 => k_is)
    (case t8 => k_is)
    (case a9 => k_is)
    (case l9 => k_is)
    (case c9 => k_is)
    (case k9 => k_is)
    (case a10 => k_is)
    (case l10 => k_is)
    (case c10 => k_is)
    (case k10 => k_is)
    (case a11 => k_is)
    (case l11 => k_is)
    (case c11 => k_is)
    (case k11 => k_is)
    (case a12 => k_is)
    (case l12 => k_is)
    (case c12 => k_is)
    (case k12 => k_is)
    (case a13 => k_is)
    (case l13 => k_is)
    (case c13 => k_is)
    (case k13 => k_is)
    (case a14 => k_is)
    (case l14 => k_is)
    (case c14 => k_is)
    (case k14 => k_is)
    (case a15 => k_is)
    (case l15 => k_is)
    (case c15 => k_is)
    (case k15 => k_is)
    (case a16 => k_is)
    (case l16 => k_is)
    (case c16 => k_is)
    (case k16 => k_is)
    (case a17 => k_is)
    (case l17 => k_is)
    (case c17 => k_is)
    (case k17 => k_is)
    (case a18 => k_is)
    (case l18 => k_is)
    (case c18 => k_is)
    (case k18 => k_is)
    (case a19 => k_is)
    (case l19 => k_is)
    (case c19 => k_is)
    (case k19 => k_is)
    (case a20 => k_is)
    (case l20 => k_is)
    (case c20 => k_is)
    (case k20 => k_is)
    (case a21 => k_is)
    (case l21 => k_is)
    (case c21 => k_is)
    (case k21 => k_is)
    (case a22 => k_is)
    (case l22 => k_is)
    (case c22 => k_is)
    (case k22 => k_is)
    (case a23 => k_is)
    (case l23 => k_is)
    (case c23 => k_is)
    (case k23 => k_is)
    (case a24 => k_is)
    (case l24 => k_is)
    (case c24 => k_is)
    (case k24 => k_is)
    (case a25 => k_is)
    (case l25 => k_is)
    (case c25 => k_is)
    (case k25 => k_is)
    (case a26 => k_is)
    (case l26 => k_is)
    (case c26 => k_is)
    (case k26 => k_is)
    (case a27 => k_is)
    (case l27 => k_is)
    (case c27 => k_is)
    (case k27 => k_is)
    (case a28 => k_is)
    (case l28 => k_is)
    (case c28 => k_is)
    (case k28 => k_is)
    (case a29 => k_is)
    (case l29 => k_is)
    (case c29 => k_is)
    (case k29 => k_is)
    (case a30 => k_is)
    (case l30 => k_is)
    (case c30 => k_is)
    (case k30 => k_is)
    (case a31 => k_is)
    (case l31 => k_is)
    (case c31 => k_is)
    (case k31 => k_is)
    (case a32 => k_is)
    (case l32 => k_is)
    (case c32 => k_is)
    (case k32 => k_is)
    (case z1 => k_is)
    (case z2 => k_is)
    (case z3 => k_is)
    (case z4 => k_is)
    (case z5 => k_is)
    (case z6 => k_is)
    (case z7 => k_is)
    (case z8 => k_is)
    (case z9 => k_is)
    (case z10 => k_is)
    (case z11 => k_is)
    (case z12 => k_is)
    (case z13 => k_is)
    (case z14 => k_is)
    (case z15 => k_is)
    (case z16 => k_is)
    (case z17 => k_is)
    (case z18 => k_is)
    (case z19 => k_is)
    (case z20 => k_is)
    (case zD => k_is)
