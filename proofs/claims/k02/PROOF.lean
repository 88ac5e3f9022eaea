import PyProof.Rows.All
import Wide.All
import OpenK.AllK
import Wide.FinOn
import HandS.ForMost
import PyProof.ReprRoads
import HandS.FStrTup
import HandS.Strs
import HandS.SetFor
import HandS.Zip
import HandS.ForExc
import HandS.IsInst
import HandS.Evl
import HandS.Conv
import HandS.Flow
import HandS.Style
import HandS.Sort
import HandS.Walk
import HandS.Codes
import HandS.StrMore
import HandS.TupAny
import HandS.Defaults
import KE.KEqSeq
import HandS.WideBits
import HandS.More
import PyProof.SetRoads
import HandS.Deep
import PyProof.StrBlock2
import KE.GoesNew
import KE.SortData
import PyProof.Rows.StrCase
import PyProof.Rows.ReprOcc
import PyProof.FitsInt
import PyProof.Rows.SortShellAny
import PyProof.Rows.StrCut
import PyProof.Rows.IntBool
import PyProof.CallStr
import PySem.Challenge.RW_potround_k02_what_kinds_are
set_option Elab.async false
set_option linter.all false
set_option maxRecDepth 100000
namespace Pot
open PySem PySem.Spec PyProof.Rows L2
/-! ### defs that are called where no text of a thing is under way -/
structure FnG (P : Program) (w : World) (K : PySem.W.Frag) (mg : Str → Option Value) (base : Heap) (k : Nat) (f : Addr) (fd : FuncData) (ps : List Str) (sp : Sp) : Prop where
  many : ∀ vs H Q E, sp vs H Q E → vs.length = ps.length
  does : ∀ (A : Around) (outer : List Env) (s : Shared) (H : Hp) (args : Args) (us : List Value) (vs : List V) (Q : VK), A.guards = some [] → Room k A → Env0 P w K mg base A outer s H →
    BindsTo s fd args (ps.zip us) → Vals vs us → sp vs H Q E0 → codeAny (model P w) A (.call (.ref f) args) (CR CX0 outer P w H s Q E0) s
section
variable {P : Program} {w : World} {K : PySem.W.Frag} {mg : Str → Option Value} {base : Heap}
theorem FnG.of {k : Nat} {f : Addr} {fd : FuncData} {ps : List Str} {sp : Sp} (F : FnOk P w K mg base CX0 k f fd ps sp) : FnG P w K mg base k f fd ps sp :=
  ⟨F.len, fun A outer s H args us vs Q _ hr e hb r h => F.run A outer s H args us vs Q E0 hr e hb r h⟩
theorem okG {x qual : Str} {st : Stmt} {f : Addr} {fd : FuncData} {N ps : List Str} {k : Nat} {sp : Sp} (F : Fun K x qual st f fd) (S : FnScope N ps (defScope st)) (many : ∀ vs H Q E, sp vs H Q E → vs.length = ps.length)
    (body : ∀ (cdv : Value) (A : Around) (outer : List Env) (s : Shared) (H : Hp) (vs : List V) (Q : VK), A.guards = some [] → Room k (A.deeper (envOfC qual (defScope st) s.heap.objs.size f cdv)) → sp vs H Q E0 →
      ∃ t, PSs (cxOf CX0 P w K mg base N qual (defScope st) f cdv A outer s H E0).nox (defBody st) t ∧ t { nx := fun _ H' => Q .non H', rt := Q } (start N vs) H) : FnG P w K mg base (k + 1) f fd ps sp := by
  obtain ⟨oc, od, kV, doc, pm, an, cdv, ct, osl, rfl, at_, code⟩ := F.ex
  refine ⟨many, fun A outer s H args us vs Q gd room e0 bind rel want => ?_⟩
  have kin : K.In s.heap := e0.mod.kin.keeps fun b o e => (e0.bs b o e).1
  have nolim : s.heap.NoLimit := e0.mod.nolimit.keeps fun b o e => (e0.bs b o e).1
  refine codeAny_call_function room.depth (kin _ _ at_) rfl S.co S.gen rfl (PySem.W.codeRec_of kin code) (bind _ _ _ _ (wpAny_newFunctionEnv_cells S.kind (fun y hy => ?_) fun env he s1 x => ?_))
  · obtain ⟨n, v⟩ := y
    exact (S.par n (List.of_mem_zip hy).1).imp id fun q => ⟨q, PySem.W.cellsFrom_some _ _ _ (.inl q)⟩
  · subst he
    obtain ⟨t, ht, hq⟩ := body cdv A outer s H vs Q gd (room.deeper _) want
    have I : Inv (cxOf CX0 P w K mg base N qual (defScope st) f cdv A outer s H E0) [] (start N vs) H s1 := inv_start S room.hd e0 (many _ _ _ _ want) rel x
    refine ⟨nolim.keeps x.toInCall.keep, codeAny_func (wpAny_mono (ht.nox.run [] s1 (start N vs) H _ I hq) (fun fl s' hs => ?_) fun _ _ z => z)⟩
    cases fl with
    | ret u =>
      obtain ⟨v, σ', H', J, rv, q⟩ := hs
      exact ⟨v, H', J.os, J.bare, J.base, J.hok, rv, q⟩
    | next =>
      obtain ⟨σ', H', J, q⟩ := hs
      exact ⟨V.non, H', J.os, J.bare, J.base, J.hok, rfl, q⟩
    | brk => obtain ⟨_, _, _, q⟩ := hs; exact q.elim
    | cont => obtain ⟨_, _, _, q⟩ := hs; exact q.elim
/-! calls -/
/-- a def that may be called by its name where no text is under way -/
def ClG (P : Program) (w : World) (K : PySem.W.Frag) (mg : Str → Option Value) (base : Heap) (k : Nat) (x : Str) (ds : List V) (sp : Sp) : Prop :=
  ∃ (f : Addr) (fd : FuncData) (ps : List Str) (dus : List Value), FnG P w K mg base k f fd ps sp ∧ mg x = some (.ref f) ∧ PySem.W.keepIn K (.ref f) = true ∧ Binds K fd ps dus ∧ Vals ds dus
theorem pe_clG {X : Cx} {k j : Nat} {x : Str} {ds : List V} {sp : Sp} {e : Expr} {es : List Expr} {t : TA} {p pos : Pos} (c : ClG X.prog X.w X.K X.mg X.base k x ds sp) (hr : Room j X.A) (gd : X.A.guards = some []) (hk : k ≤ j) (hg : Gl X x) (ha : PA X (e :: es) t)
    (hdb : (x == ("__debug__" : Str)) = false := by decide) (he : starEach (e :: es) X.env = (false, eval e X.env) :: starEach es X.env := by rfl) (hpl : (backTo pos (starEach es X.env)).any (·.1) = false := by rfl) :
    PE X (.Call (.Name x p) (e :: es) [] pos) (tCall sp ds E0 t) := by
  obtain ⟨f, fd, ps, dus, G, named, kept, binds, dv⟩ := c
  refine ⟨fun pins s σ H Q I h => wpAny_Call_Name_kw (ld_glob I hg named (PySem.W.callWith_K (h₀ := X.base) I.ok.mod.kin kept (thn (ha.run pos pins s σ H _ I h) fun us s1 hh => ?_) he hpl) hdb)⟩
  obtain ⟨vs, H1, I1, r, q⟩ := hh
  refine ⟨I1.kIn, ?_⟩
  have rel := r.append dv
  have n : (us ++ dus).length = ps.length := rel.length ▸ G.many _ _ _ _ q
  refine wpAny_call (codeAny_mono (G.does X.A X.stack s1 H1 ⟨us, []⟩ (us ++ dus) (vs ++ ds) Q gd (hr.mono hk) I1.env0 (binds s1 us I1.kIn n) rel q) fun res s' hq => ?_)
  rcases res with _ | fl
  case error => exact (show False from hq).elim
  cases fl <;> first | exact I1.after hq | exact (show False from hq).elim
/-! the law's own call -/
theorem law_callG {mb : Str → Option Value} {k : Nat} {fa a : Addr} {fd : FuncData} {x : Str} {sp : Sp} {s : Shared} {vs : List Value} {ns : List Int} (kin : K.In s.heap) (glob : s.heap.Ns mainGlobals mg) (blt : s.heap.Ns builtinsNs mb)
    (boot : ∀ y : Str, y ≠ "__name__" → mb y = bootBuiltins y) (lim : s.heap.NoLimit) (gens : s.gens = #[]) (obj : s.heap.get? a = some { cls := .type "list", data := .seq vs.toArray }) (whole : IntsAre vs ns) (small : ns.length ≤ sizeLine) (room : Room k callerA)
    (F : ∀ base : Heap, K.In base → base.Ns mainGlobals mg → FnG P w K mg base k fa fd [x] sp) (bind : ∀ (s : Shared) (u : Value), BindsTo s fd ⟨[u], []⟩ [(x, u)])
    (want : ∀ H : Hp, Only H → SqL K H a (ns.map V.int) → sp [.ref a] H (fun v _ => v = .bl true) E0) :
    codeAny (model P w) callerA (.call (.ref fa) ⟨[.ref a], []⟩) (fun r s' => r = .ok (.ret (.bool true)) ∧ OldK s.heap s'.heap ∧ s'.os = s.os ∧ AllBare s'.gens) s := by
  have rv := vals_ints whole
  have nv := whole.length
  -- which heap is told: the script, locked, where it isn't one of the written part
  obtain ⟨H, only, seq, fine, alone, apart⟩ : ∃ H : Hp, Only H ∧ SqL K H a (ns.map V.int) ∧ HOk P w H s.heap ∧ (∀ b u, H b = some u → b = a) ∧ (∀ u, H a = some u → K.lookup a = none) := by
    cases lk : K.lookup a with
    | some o =>
      have same := kin a o lk
      rw [obj] at same
      cases same
      exact ⟨fun _ => none, fun _ => .inl rfl, .inr ⟨_, vs.toArray, _, lk, rfl, rfl, rfl, by rw [List.size_toArray, nv]; exact small, by simpa using rv⟩, (fun b u z => nomatch (show (none : Option HO) = some u from z)), (fun b u z => nomatch (show (none : Option HO) = some u from z)), fun u z => nomatch (show (none : Option HO) = some u from z)⟩
    | none =>
      have hit : ∀ b u, (if b = a then some (HO.frz { cls := .type "list", data := .seq vs.toArray } (.lst (ns.map V.int))) else none) = some u → b = a ∧ u = .frz { cls := .type "list", data := .seq vs.toArray } (.lst (ns.map V.int)) := fun b u z => by
        split at z
        · cases z; exact ⟨‹_›, rfl⟩
        · cases z
      refine ⟨fun b => if b = a then some (.frz { cls := .type "list", data := .seq vs.toArray } (.lst (ns.map V.int))) else none, fun b => ?_, .inl (.inr ⟨_, if_pos rfl⟩), fun b u z => ?_, fun b u z => (hit b u z).1, fun _ _ => rfl⟩
      · by_cases hb : b = a
        · exact .inr ⟨_, _, if_pos hb⟩
        · exact .inl (if_neg hb)
      · obtain ⟨rfl, rfl⟩ := hit b u z
        exact ⟨obj, by rw [List.length_map]; exact small, vs, _, rv, obj⟩
  have hid : ∀ {b : Addr} {o : Obj}, s.heap.get? b = some o → (b = a → H a = none) → (hidT s.heap H).get? b = some o := fun {b o} e n => hidT_get e (by
    cases q : H b with
    | none => rfl
    | some u =>
      have e2 := alone b u q
      subst e2
      rw [n rfl] at q
      cases q)
  have kinB : K.In (hidT s.heap H) := fun b o e => hid (kin b o e) fun z => by
    subst z
    cases q : H b with
    | none => rfl
    | some u => rw [apart u q] at e; cases e
  have ns_ : ∀ {b : Addr} {m : Str → Option Value}, s.heap.Ns b m → (hidT s.heap H).Ns b m := fun {b m} h => by
    obtain ⟨o, es, ep, e, d, r⟩ := h
    refine ⟨o, es, ep, hid e fun z => ?_, d, r⟩
    subst z
    rw [obj] at e
    cases e
    exact nomatch (show Data.seq vs.toArray _ = Data.dict es ep from d)
  have md : Mod K mg (hidT s.heap H) := ⟨kinB, ns_ glob, ⟨mb, ns_ blt, boot⟩, by obtain ⟨mc, h1, h2⟩ := lim; exact ⟨mc, ns_ h1, h2⟩⟩
  have e0 : Env0 P w K mg (hidT s.heap H) callerA [] s H := ⟨rfl, md, fun b o e => of_hidT e, Nat.le_of_eq (hidT_size _ _), trivial, (fun b hb => nomatch (show b ∈ ([] : List Addr) from hb)), fine, .of_eq gens⟩
  refine codeAny_mono ((F _ kinB (ns_ glob)).does callerA [] s H ⟨[.ref a], []⟩ [.ref a] [.ref a] _ rfl room e0 (bind s (.ref a)) (.cons rfl .nil) (want H only seq)) fun res s' h => ?_
  rcases res with _ | fl
  case error => exact (show False from h).elim
  cases fl <;> first | exact (show False from h).elim | skip
  obtain ⟨v, H', os, bare, un, fine', rel, q⟩ := h
  cases (show v = .bl true from q)
  cases (show _ = Value.bool true from rel)
  refine ⟨rfl, OldK.of_keep fun b o e => ?_, os, bare⟩
  cases q : H b with
  | none => exact un.keep b o e q (fun z => nomatch (show b ∈ ([] : List Addr) from z)) (fun z => nomatch z)
  | some u =>
    rcases only b with z | ⟨ob, xs, z⟩
    · rw [q] at z; cases z
    · obtain ⟨e1, _⟩ := fine b _ z
      obtain ⟨e2, _⟩ := fine' b _ (un.frzs b ob _ z)
      rw [e] at e1; cases e1
      exact e2
end
theorem walkG {l : PySem.W.OpenLaw} {n k : Nat} {q : Program} {loose : List Str} {XP : (Str → Option Value) → Heap → Prop} {YP : World → Heap → Prop} {d : DefRec} {K : Params → PySem.W.Frag} {sp : World → Sp} {x : Str}
    (most : l.most = some n) (fits : n ≤ sizeLine) (plain : d.params.defaults = []) (room : Room k callerA) (part : ∀ (w : World) (h : Heap), YP w h → (K w.params).In h)
    (F : ∀ (w : World) (mg : Str → Option Value) (fa : Addr) (h : Heap), (K w.params).In h → h.Ns mainGlobals mg → mg d.name = some (.ref fa) →
      ∃ fd : FuncData, (∀ (s : Shared) (u : Value), BindsTo s fd ⟨[u], []⟩ [(x, u)]) ∧ ∀ base : Heap, (K w.params).In base → base.Ns mainGlobals mg → FnG l.prog w (K w.params) mg base k fa fd [x] (sp w))
    (want : ∀ (w : World) (H : Hp) (a : Addr) (ns : List Int), ns.length ≤ n → Only H → SqL (K w.params) H a (ns.map V.int) → sp w [.ref a] H (fun v _ => v = .bl true) E0) :
    PySem.W.WalkO q loose XP YP l.row.toRowW d [] (fun f vs => PySem.call f vs) := by
  refine Att.attach_call most plain fun w s₀ s₁ mg mb fa o pm cd doc a vs ns G Y _ _ _ named obj whole len gens => ?_
  obtain ⟨fd, bind, hF⟩ := F w mg fa _ (part w _ Y) G.T.g named
  exact law_callG (part w _ Y) G.T.g G.T.b G.T.builtins G.T.nolimit gens obj whole (Nat.le_trans len fits) room hF bind fun H only seq => want w H a ns len only seq
end Pot

namespace Pot
open PySem PySem.Spec PyProof.Rows L2
/-! ### repr of what is made of numbers, texts, truths, None, lists and tuples -/
section
variable {K : PySem.W.Frag}
mutual
theorem dp_noDict {H : Hp} : ∀ {v : V} {d : PyData}, Dp K H v d → d.hasDict = false
  | _, _, .non => rfl
  | _, _, .bl _ => rfl
  | _, _, .int _ => rfl
  | _, _, .str _ => rfl
  | _, _, .lst _ a => dpAll_noDict a
  | _, _, .tup _ a => dpAll_noDict a
theorem dpAll_noDict {H : Hp} : ∀ {vs : List V} {ds : List PyData}, DpAll K H vs ds → PyData.hasDictAll ds = false
  | _, _, .nil => rfl
  | _, _, .cons h t => by
    show (PyData.hasDict _ || PyData.hasDictAll _) = false
    rw [dp_noDict h, dpAll_noDict t]
    rfl
end
/-- how long its text may be, told roughly -/
def costAll : List PyData → Nat
  | [] => 0
  | x :: xs => cost x + 2 + costAll xs
where cost : PyData → Nat
  | .none => 4
  | .bool _ => 5
  | .int _ => 1921
  | .str x => 10 * x.length + 2
  | .list xs => costAll xs + 3
  | .tuple xs => costAll xs + 3
  | .dict _ => 0
/-- what repr is asked of here: its texts of plain signs -/
def fineAll : List PyData → Prop
  | [] => True
  | x :: xs => fine x ∧ fineAll xs
where fine : PyData → Prop
  | .none => True
  | .bool _ => True
  | .int i => i.natAbs.log2 < 1920
  | .str x => ∀ c ∈ x.cps.toList, c < 16 ^ 8
  | .list xs => fineAll xs
  | .tuple xs => fineAll xs
  | .dict _ => False
theorem from_len : ∀ (ts : List Str) (k : Nat) (acc : Str), (textFrom k acc ts).length ≤ acc.length + piled ts
  | [], k, acc => by rw [piled_nil]; exact Nat.le_refl _
  | t :: r, k, acc => by
    have ih := from_len r (k + 1)
    rw [piled_cons]
    unfold textFrom
    refine Nat.le_trans (ih _) ?_
    rw [strLen_append]
    split
    · rw [strLen_append]
      have e : (", " : Str).length = 2 := by decide +kernel
      omega
    · rw [strLen_append]
      have e : ("" : Str).length = 0 := by decide +kernel
      omega
theorem list_len (ts : List Str) : (listText ts).length ≤ piled ts + 2 := by
  unfold listText
  rw [strLen_append]
  have h := from_len ts 0 "["
  have e1 : ("[" : Str).length = 1 := by decide +kernel
  have e2 : ("]" : Str).length = 1 := by decide +kernel
  omega
mutual
theorem shown_len : ∀ d : PyData, fineAll.fine d → d.shown.length ≤ costAll.cost d
  | .none, _ => by decide +kernel
  | .bool b, _ => by cases b <;> decide +kernel
  | .int i, h => PyProof.Rows.int_text_len_1921 h
  | .str x, h => StrLaws.reprText_len x h
  | .list xs, h => Nat.le_trans (list_len _) (Nat.add_le_add (piled_len xs h) (by decide))
  | .tuple xs, h => Nat.le_trans (fmt_text _) (Nat.add_le_add (piled_len xs h) (by decide))
  | .dict _, h => h.elim
theorem piled_len : ∀ ds : List PyData, fineAll ds → piled (PyData.shownAll ds) ≤ costAll ds
  | [], _ => Nat.le_refl _
  | x :: xs, h => by
    have h1 := shown_len x h.1
    have h2 := piled_len xs h.2
    show piled (x.shown :: PyData.shownAll xs) ≤ costAll.cost x + 2 + costAll xs
    rw [piled_cons]
    omega
end
mutual
theorem fine_show : ∀ d : PyData, fineAll.fine d → d.showable = true
  | .none, _ => rfl
  | .bool _, _ => rfl
  | .int i, h => decide_eq_true h
  | .str _, _ => rfl
  | .list xs, h => fineAll_show xs h
  | .tuple xs, h => fineAll_show xs h
  | .dict _, h => h.elim
theorem fineAll_show : ∀ ds : List PyData, fineAll ds → PyData.showableAll ds = true
  | [], _ => rfl
  | x :: xs, h => by
    show (PyData.showable x && PyData.showableAll xs) = true
    rw [fine_show x h.1, fineAll_show xs h.2]
    rfl
end
end
section
variable {X : Cx}
def rRepr (K : PySem.W.Frag) : List V → Hp → VK → Prop := fun xs H Q => ∃ (a : Addr) (d : PyData), xs = [V.ref a] ∧ Dp K H (.ref a) d ∧ fineAll.fine d ∧ d.depth ≤ 60 ∧ costAll.cost d ≤ 16777216 ∧ Q (.str d.shown) H
theorem cr_repr (gd : X.A.guards = some []) (hu : X.A.units + 64 < cLine) : CallR X (.builtin "repr") (rRepr X.K) := by
  intro pins s σ H vs us Q I r h
  obtain ⟨a, d, rfl, dp, sh, dep, sz, q⟩ := h
  rw [Vals.ref1 r]
  obtain ⟨as, rd⟩ := Dp.reads I d (.ref a) (.ref a) dp rfl
  refine repr_of_reads' rd (fine_show d sh) (fun z => ?_) gd (by omega) (fun _ _ e => e) (fun h' u tk k => ⟨.str d.shown, H, I.kept k, ⟨u, rfl⟩, q⟩) (Nat.le_trans (shown_len d sh) (by rw [sizeLine_eq]; exact sz))
  rw [dp_noDict dp] at z
  cases z
end
end Pot

namespace Pot
open PySem PySem.Spec PyProof.Rows L2 PySem.W PySem.Calls
/-! ### set(xs) of a list of ints -/
/-- the object that set() makes first -/
abbrev emptySet (w : World) : Obj := { cls := .type "set", dict := none, data := .set #[] 0 (.fresh 0 0 (!w.params.followText "set-order")) }
section
variable {P : Program} {w : World} {A : Around} {E : Value → Shared → Prop} {s : Shared}
/-- what is wanted behind the filling -/
def Filled (w : World) (s : Shared) (ns : List Int) (s' : Shared) : Prop := ∃ h' tk c, s' = { s with heap := h', toks := tk } ∧ SetR w h' s.heap.objs.size (fun j => decide (j ∈ ns)) c ∧ c ≤ ns.length ∧ ∀ b o, s.heap.get? b = some o → h'.get? b = some o
set_option maxHeartbeats 4000000 in
theorem call_set_li {l : Addr} {items : Array Value} (ns : List Int) {Q : Value → Shared → Prop} (hh : A.handled = none) (hl : s.heap.IsList l items) (hit : IntsAre items.toList ns) (hb : ns.length + 1 < scanBound)
    (hq : ∀ s', Filled w s ns s' → Q (.ref s.heap.objs.size) s') : wpAny (model P w) A (call (.type "set") [.ref l]) Q E s := by
  have size : items.size = ns.length := by
    rw [← Array.length_toList]; exact IntsAre.length hit
  have made := F.called_set.made
  have below := F.called_set.sub
  obtain ⟨_, _, chain⟩ := F.called_set.mro
  have nt := F.called_set.notType
  have cc := F.called_set.canCreate
  have ck := F.typeCall_set_1 (.ref l)
  refine wpAny_call (codeAny_of_tree (show wpAny _ _ (callAny (.type "set") _) _ _ _ from wpAny_pure ⟨Code.quiet_builtin _ (by decide +kernel), codeAny_builtin F.entry_type_call ?_⟩))
  rw [Around.under_plain (weight_type_call_type "set" [.ref l] []) rfl]
  repeat (any_goals (first | assumption | wp_step))
  refine codeAny_mono (code_set_led1 (.ref l) (E := E) (Q₁ := fun obj z => obj = .ref s.heap.objs.size ∧ z = { s with heap := s.heap.push (emptySet w) }) ⟨rfl, rfl⟩) fun r z hr => ?_
  rcases r with _ | fl
  case error => exact hr
  cases fl <;> first | exact hr.elim | skip
  obtain ⟨rfl, rfl⟩ := hr
  have at0 : (s.heap.push (emptySet w)).get? s.heap.objs.size = some (emptySet w) := Heap.get?_push_size _ rfl
  have ty0 : Shared.TypeIs { s with heap := s.heap.push (emptySet w) } (.ref s.heap.objs.size) "set" := ⟨_, at0, rfl⟩
  have li := F.called_set.init.lookup
  have bi := F.called_set.init.bind (.ref s.heap.objs.size)
  repeat (any_goals (first | assumption | wp_step))
  refine codeAny_mono (codeAny_call_builtin (R := wants (fun r z => r = .none ∧ Filled w s ns z) E) F.called_set.init.plain F.entry_set_init (check_set_init_1 ty0 ?_)) fun r z hz => ?_
  · obtain ⟨⟨_, od, _, os⟩, hol, hcl, nl, hdl⟩ := hl
    simp only at hcl hdl
    subst hcl
    subst hdl
    have keep : (s.heap.push (emptySet w)).get? l = some { cls := .type "list", dict := od, data := .seq items nl, slots := os } := Heap.get?_push_of_some _ hol
    have s1 := F.sub_list_set
    have s2 := F.sub_list_frozenset
    have s3 : (Value.type "list" == Value.type "dict") = false := by decide
    have isl : (s.heap.push (emptySet w)).IsList l items := ⟨_, keep, rfl, nl, rfl⟩
    unfold Builtin.«set.__init__» noKeywords Builtin.Frozenset.updateFrom
    generalize hPI : pyIter = PI
    wp_walk
    subst hPI
    refine wpAny_pyIter_list isl (wpAny_bind (wpAny_runValue ?_))
    have lt : l < s.heap.objs.size := Heap.lt_size hol
    have sz : (s.heap.push (emptySet w)).objs.size = s.heap.objs.size + 1 := Heap.size_push ..
    have ne1 : l ≠ (s.heap.push (emptySet w)).objs.size := by rw [sz]; exact Nat.ne_of_lt (Nat.lt_succ_of_lt lt)
    have ne2 : s.heap.objs.size ∉ [(s.heap.push (emptySet w)).objs.size, l] := by
      rw [sz]
      intro z
      rcases List.mem_cons.mp z with z | z
      · exact absurd z (Nat.ne_of_lt (Nat.lt_succ_self _))
      · exact absurd (List.mem_singleton.mp z) (Nat.ne_of_gt lt)
    have each : ∀ (i : Nat) (v : Value), items[i]? = some v → ∃ k t, ns[i]? = some k ∧ v = .int k t := fun i v hv => by
      have hi : i < ns.length := size ▸ (Array.getElem?_eq_some_iff.mp hv).1
      obtain ⟨t, e⟩ := IntsAre.int_at hit i v (by rw [Array.getElem?_toList]; exact hv)
      exact ⟨ns[i], t, List.getElem?_eq_getElem hi, by rw [e, List.getD_eq_getElem?_getD, List.getElem?_eq_getElem hi]; rfl⟩
    refine set_update_ints ((Walks.list (show A.in1.in1.in1.handled = none by simp [hh]) _ l ne1 items).toS) s.heap.objs.size ne2 ns size hb each (items.size - 0) 0 _ (by omega) (Nat.zero_le _) ⟨⟨_, Heap.get?_push_size _ rfl, rfl, rfl⟩, isl.push _⟩ ⟨0, Nat.le_refl 0, setR_new_at (Heap.get?_push_of_some _ at0)⟩ fun s' c hm hc hS => ?_
    obtain ⟨h', g, d, tk, o⟩ := s'
    cases (show g = s.gens from hm.gens)
    cases (show d = s.drawn from hm.drawn)
    cases (show o = s.os from hm.os)
    refine (show wpAny _ _ _ _ _ _ from wpAny_pure (show wpAny _ _ (ret Value.none) _ _ _ from wpAny_pure ⟨rfl, h', tk, c, rfl, hS, size ▸ hc, fun b o e => ?_⟩))
    have hb0 : b < s.heap.objs.size := Heap.lt_size e
    refine hm.heap b o (fun z => ?_) (Heap.get?_push_of_some _ (Heap.get?_push_of_some _ e))
    rcases List.mem_cons.mp z with z | z
    · exact absurd z (Nat.ne_of_lt hb0)
    · exact absurd ((List.mem_singleton.mp z).trans sz) (Nat.ne_of_lt (Nat.lt_succ_of_lt hb0))
  · rcases r with _ | fl
    case error => exact hz
    cases fl <;> first | exact hz.elim | skip
    obtain ⟨rfl, f⟩ := hz
    obtain ⟨h', tk, c, rfl, hS, hc, k⟩ := id f
    repeat (any_goals (first | assumption | wp_step))
    exact hq _ ⟨_, _, _, rfl, hS, hc, k⟩
end
section
variable {X : Cx}
/-- set(xs), at most 60 ints: a set of just these -/
def rSetLi (K : PySem.W.Frag) (w : World) : List V → Hp → VK → Prop := fun xs H Q => ∃ (a : Addr) (ns : List Int), xs = [V.ref a] ∧ SqL K H a (ns.map V.int) ∧ ns.length ≤ 1000 ∧
  ∀ (p : Addr) (c : Nat), H p = none → c ≤ ns.length → Q (.ref p) (upd H p (SetO w p (fun k => decide (k ∈ ns)) c))
theorem cr_setLi (hc : X.calm = true) : CallR X (.type "set") (rSetLi X.K X.w) := by
  intro pins s σ H vs us Q I r h
  obtain ⟨a, ns, rfl, hS, hl, q⟩ := h
  rw [Vals.ref1 r]
  obtain ⟨its, rv, pl, hz⟩ := I.list hS
  refine call_set_li ns (I.ok.hd hc) pl.isList (by simpa using Vals.ints rv) (by unfold scanBound; omega) fun s' f => ?_
  obtain ⟨h', tk, c, rfl, R, hcn, k⟩ := f
  have hn : H s.heap.objs.size = none := I.hok.fresh (Nat.le_refl _)
  have J : Inv X pins σ (upd H s.heap.objs.size (SetO X.w s.heap.objs.size (fun k => decide (k ∈ ns)) c)) { s with heap := h', toks := tk } := I.laid (t' := tk) k (Nat.le_refl _) (setO_new R)
  exact ⟨.ref s.heap.objs.size, _, J, rfl, q _ _ hn hcn⟩
end
end Pot

/-! The rules whose readings name the written part, with it as a letter of its own. -/
namespace Pot
open PySem PySem.Spec PyProof.Rows L2
section
variable {X : Cx} {K : PySem.W.Frag}
theorem kx_list (h : X.K = K := by rfl) : IxR X (rIxL K) := h ▸ ix_list
theorem kx_tup (h : X.K = K := by rfl) : IxR X (rIxT K) := h ▸ ix_tup
theorem kl_list (h : X.K = K := by rfl) : SlR X (rSlL K) := h ▸ sl_list
theorem kl_tup (h : X.K = K := by rfl) : SlR X (rSlA K) := h ▸ sl_tupA
theorem ko_in (h : X.K = K := by rfl) : OpR X (compareOp .In) (rIn K false) := h ▸ op_in_seq
theorem ko_eq (hu : X.A.units + 64 < cLine) (h : X.K = K := by rfl) : OpR X (compareOp .Eq) (rEqD K) := h ▸ op_eqD hu
theorem ko_ne (hu : X.A.units + 64 < cLine) (h : X.K = K := by rfl) : OpR X (compareOp .NotEq) (rNeD K) := h ▸ op_neD hu
def rLen (K : PySem.W.Frag) : List V → Hp → VK → Prop := fun xs H Q => ∃ x n, xs = [x] ∧ LenV K x H n ∧ Q (.int n) H
theorem kc_len (h : X.K = K := by rfl) : CallR X (.builtin "len") (rLen K) := by subst h; exact call_len
def rListOf (K : PySem.W.Frag) : List V → Hp → VK → Prop := fun xs H Q => ∃ p ys, xs = [.ref p] ∧ (SqL K H p ys ∨ SqT K H p ys) ∧ ∀ l, H l = none → Q (.ref l) (upd H l (.lst ys))
theorem kc_list (h : X.K = K := by rfl) : CallR X (.type "list") (rListOf K) := by subst h; exact call_list_of
def rTupleOf (K : PySem.W.Frag) : List V → Hp → VK → Prop := fun xs H Q => ∃ p ys, xs = [.ref p] ∧ ((SqL K H p ys ∧ ∀ l, H l = none → Q (.ref l) (upd H l (.tup ys))) ∨ (SqT K H p ys ∧ Q (.ref p) H))
theorem kc_tuple (h : X.K = K := by rfl) : CallR X (.type "tuple") (rTupleOf K) := by subst h; exact call_tuple_of
theorem kc_sum (hc : X.calm = true := by rfl) (h : X.K = K := by rfl) : CallR X (.builtin "sum") (rSum K) := h ▸ cr_sum hc
theorem kc_all (hc : X.calm = true := by rfl) (h : X.K = K := by rfl) : CallR X (.builtin "all") (rAll K) := h ▸ cr_all hc
theorem kc_any (hc : X.calm = true := by rfl) (h : X.K = K := by rfl) : CallR X (.builtin "any") (rAny K) := h ▸ cr_any hc
theorem kc_sorted (h : X.K = K := by rfl) : CallR X (.builtin "sorted") (rSorted K) := h ▸ cr_sorted
theorem kc_sortedS (h : X.K = K := by rfl) : CallR X (.builtin "sorted") (rSortedS K) := h ▸ cr_sortedS
theorem kc_isi (h : X.K = K := by rfl) : CallR X (.builtin "isinstance") (rIsi K) := h ▸ call_isi
theorem kc_isiT (h : X.K = K := by rfl) : CallR X (.builtin "isinstance") (rIsiT K) := h ▸ call_isiT
theorem kc_repr (gd : X.A.guards = some []) (hu : X.A.units + 64 < cLine) (h : X.K = K := by rfl) : CallR X (.builtin "repr") (rRepr K) := h ▸ cr_repr gd hu
theorem kc_setLi {w : World} (hc : X.calm = true := by rfl) (h : X.K = K := by rfl) (hw : X.w = w := by rfl) : CallR X (.type "set") (rSetLi K w) := by subst h; subst hw; exact cr_setLi hc
theorem kc_sortedSet {w : World} (hc : X.calm = true := by rfl) (hw : X.w = w := by rfl) : CallR X (.builtin "sorted") (rSortedSet w) := hw ▸ cr_sortedSet hc
theorem ki_list {tg l : Expr} {tl : TE} (hl : PE X l tl) (h : X.K = K := by rfl) : PI X tg l (iList K tl) := h ▸ pi_list hl
theorem ki_tup {tg l : Expr} {tl : TE} (hl : PE X l tl) (h : X.K = K := by rfl) : PI X tg l (iTup K tl) := h ▸ pi_tup hl
theorem ki_zip {e e2 : Expr} {ta : TA} {p pos tpos : Pos} {elts : List Expr} {kk : Nat} (hg : Gl X "zip") (hm : X.mg "zip" = none) (ha : PA X [e, e2] ta) (hs : starEach [e, e2] X.env = (false, eval e X.env) :: starEach [e2] X.env := by rfl)
    (hpl : (backTo pos (starEach [e2] X.env)).any (·.1) = false := by rfl) (h : X.K = K := by rfl) : PI X (.Tuple elts kk tpos) (.Call (.Name "zip" p) [e, e2] [] pos) (RZ.iZipA K ta) := h ▸ RZ.pi_zipA hg hm ha hs hpl
theorem ki_enum {e : Expr} {ta : TA} {p pos tpos : Pos} {elts : List Expr} {kk : Nat} (hg : Gl X "enumerate") (hm : X.mg "enumerate" = none) (ha : PA X [e] ta) (hs : starEach [e] X.env = [(false, eval e X.env)] := by rfl) (h : X.K = K := by rfl)
    : PI X (.Tuple elts kk tpos) (.Call (.Name "enumerate" p) [e] [] pos) (iEnum K ta) := h ▸ pi_enum hg hm ha hs
theorem kg_tup {pos : Pos} {es : List Expr} {k : Nat} {t : TGs} {n : Nat} (h : PGs X es t) (hc : X.calm = true := by rfl) (hn : (assignEach es X.env).length = n := by rfl) (hst : (assignEach es X.env).findIdx? (·.1) = none := by rfl) (hk : X.K = K := by rfl) : PG X (.Tuple es k pos) (gTup K n t) := hk ▸ pg_tup hc h hn hst
def tTru (K : PySem.W.Frag) (ta : TE) : TT := fun σ H Q => ta σ H fun x H' => ∃ k, TruV K x H' k ∧ Q k H'
theorem kt_truth {a : Expr} {ta : TE} (ha : PE X a ta) (he : ∀ whole, isTrue a X.env whole = (do let v ← whole; standAt a.pos; holding [v] (truthy v)) := by intro _; rfl) (h : X.K = K := by rfl) : PT X a (tTru K ta) := by subst h; exact pt_truth ha he
def rJoin (K : PySem.W.Frag) : V → List V → Hp → VK → Prop := fun x xs H Q => ∃ a p, ∃ ys : List Str, x = .str a ∧ xs = [.ref p] ∧ (SqL K H p (ys.map V.str) ∨ SqT K H p (ys.map V.str)) ∧ (ys.map (·.length)).sum + ys.length * a.length ≤ 16777216 ∧ Q (.str (Txt.join a ys)) H
theorem ke_join {o e : Expr} {to te : TE} {apos pos : Pos} (ho : PE X o to) (he : PE X e te) (hs : starEach [e] X.env = [(false, eval e X.env)] := by rfl) (hbase : attributeBase o "join" X.env (eval o X.env) = eval o X.env := by rfl) (hline : (apos.endLine == pos.line) = true := by rfl) (h : X.K = K := by rfl) :
    PE X (.Call (.Attribute o "join" apos) [e] [] pos) (tM1 (rJoin K) to te) := by subst h; exact pe_join ho he hs hbase hline
theorem pss_never {st : List Stmt} : PSs X st (fun _ _ _ => False) := ⟨fun _ _ _ _ _ _ h => h.elim⟩
theorem ps_never {st : Stmt} : PS X st (fun _ _ _ => False) := ⟨fun _ _ _ _ _ _ h => h.elim⟩
theorem pe_never {e : Expr} : PE X e (fun _ _ _ => False) := ⟨fun _ _ _ _ _ _ h => h.elim⟩
theorem tYes_at {σ : L2.St} {H : Hp} {Q : Bool → Hp → Prop} (h : Q true H) : tYes σ H Q := h
end
end Pot

namespace Pot
open PySem PySem.Spec PyProof.Rows L2
/-- built-in names that the module gives no other meaning -/
structure Txt (mg : Str → Option Value) : Prop where
  len : mg "len" = none
  divmod : mg "divmod" = none
  range : mg "range" = none
  sum : mg "sum" = none
  all : mg "all" = none
  any : mg "any" = none
  isinstance : mg "isinstance" = none
  str : mg "str" = none
  int : mg "int" = none
  list : mg "list" = none
  tuple : mg "tuple" = none
  bool : mg "bool" = none
  zip : mg "zip" = none
  set : mg "set" = none
  sorted : mg "sorted" = none
  enumerate : mg "enumerate" = none
  repr : mg "repr" = none
  min : mg "min" = none
  max : mg "max" = none
  abs : mg "abs" = none
/-- a def that may be called by its name: what it keeps, at which level -/
def Cl (P : Program) (w : World) (K : PySem.W.Frag) (mg : Str → Option Value) (base : Heap) (k : Nat) (x : Str) (sp : Sp) : Prop :=
  ∃ (f : Addr) (fd : FuncData) (ps : List Str), FnOk P w K mg base CX0 k f fd ps sp ∧ mg x = some (.ref f) ∧ PySem.W.keepIn K (.ref f) = true ∧ Binds K fd ps []
theorem pe_cl {X : Cx} {k j : Nat} {x : Str} {sp : Sp} {e : Expr} {es : List Expr} {t : TA} {p pos : Pos} (c : Cl X.prog X.w X.K X.mg X.base k x sp) (hr : Room j X.A) (hk : k ≤ j) (hg : Gl X x) (ha : PA X (e :: es) t) (hdb : (x == ("__debug__" : Str)) = false := by decide)
    (he : starEach (e :: es) X.env = (false, eval e X.env) :: starEach es X.env := by rfl) (hpl : (backTo pos (starEach es X.env)).any (·.1) = false := by rfl) : PE X (.Call (.Name x p) (e :: es) [] pos) (tCall sp [] E0 t) := by
  obtain ⟨f, fd, ps, G, hm, kp, b⟩ := c
  exact pe_call G (hr.mono hk) hg hm kp b .nil pass0 ha hdb he hpl
/-! ### the drawing state -/
def dS (c : Addr) (t : Int) : List (Key × V) := [(Sum.inr "cells", .ref c), (Sum.inr "turn", .int t)]
/-- at d stands a state of the law: its cells at c, its turn at most n -/
def StAt (H : Hp) (d c : Addr) (n : Nat) : Prop := d ≠ c ∧ ∃ (xs : List Int) (t : Int),
  H d = some (.dK (dS c t)) ∧ H c = some (.lst (xs.map V.int)) ∧ xs ≠ [] ∧ xs.length ≤ 63 ∧ 0 ≤ t ∧ t ≤ n
/-- all that was tracked stands, but d and c -/
def Kp (d c : Addr) (H H' : Hp) : Prop := ∀ b o, b ≠ d → b ≠ c → H b = some o → H' b = some o
theorem Kp.refl (d c : Addr) (H : Hp) : Kp d c H H := fun _ _ _ _ e => e
theorem Kp.trans {d c : Addr} {H H1 H2 : Hp} (a : Kp d c H H1) (b : Kp d c H1 H2) : Kp d c H H2 := fun x o h1 h2 e => b x o h1 h2 (a x o h1 h2 e)
theorem Kp.of {d c : Addr} {H H' : Hp} (s : Same H H') : Kp d c H H' := fun x o _ _ e => s x o e
theorem same_upd {H : Hp} {p : Addr} {o : HO} (h : H p = none) : Same H (upd H p o) := fun b x e => by
  rw [upd_ne (ne_of_none e h)]
  exact e
theorem same_put {H H' : Hp} {p : Addr} {o : HO} (s : Same H H') (h : H p = none) : Same H (upd H' p o) := fun b x e => by
  rw [upd_ne (ne_of_none e h)]
  exact s b x e
theorem kp_put {d c : Addr} {H H' : Hp} {p : Addr} {o : HO} (s : Kp d c H H') (h : H p = none) : Kp d c H (upd H' p o) := fun b x h1 h2 e => by
  rw [upd_ne (ne_of_none e h)]
  exact s b x h1 h2 e
theorem StAt.mono {H : Hp} {d c : Addr} {n m : Nat} (h : StAt H d c n) (k : n ≤ m) : StAt H d c m := by
  obtain ⟨h0, xs, t, h1, h2, h3, h4, h5, h6⟩ := h
  exact ⟨h0, xs, t, h1, h2, h3, h4, h5, by omega⟩
theorem StAt.same {H H' : Hp} {d c : Addr} {n : Nat} (h : StAt H d c n) (s : Same H H') : StAt H' d c n := by
  obtain ⟨h0, xs, t, h1, h2, h3, h4, h5, h6⟩ := h
  exact ⟨h0, xs, t, s _ _ h1, s _ _ h2, h3, h4, h5, h6⟩
theorem Kp.free {d c : Addr} {H H' : Hp} {n : Nat} {l : Addr} (k : Kp d c H H') (s : StAt H' d c n) (h : H' l = none) : H l = none := by
  obtain ⟨_, xs, t, h1, h2, _⟩ := s
  have n1 : l ≠ d := (ne_of_none h1 h).symm
  have n2 : l ≠ c := (ne_of_none h2 h).symm
  cases e : H l with
  | none => rfl
  | some o =>
    rw [k l o n1 n2 e] at h
    cases h
theorem StAt.ne1 {H : Hp} {d c : Addr} {n : Nat} {l : Addr} (s : StAt H d c n) (h : H l = none) : d ≠ l := by
  obtain ⟨_, xs, t, h1, h2, _⟩ := s
  exact ne_of_none h1 h
theorem StAt.ne2 {H : Hp} {d c : Addr} {n : Nat} {l : Addr} (s : StAt H d c n) (h : H l = none) : c ≠ l := by
  obtain ⟨_, xs, t, h1, h2, _⟩ := s
  exact ne_of_none h2 h
theorem StAt.put {H : Hp} {d c : Addr} {n : Nat} {l : Addr} {o : HO} (s : StAt H d c n) (n1 : d ≠ l) (n2 : c ≠ l) : StAt (upd H l o) d c n := by
  obtain ⟨h0, xs, t, h1, h2, h3, h4, h5, h6⟩ := s
  exact ⟨h0, xs, t, by rw [upd_ne n1]; exact h1, by rw [upd_ne n2]; exact h2, h3, h4, h5, h6⟩
theorem val_turn (c : Addr) (t : Int) : valV (dS c t) (Sum.inr "turn") = some (.int t) := by
  have e : ¬ ((Sum.inr (Str.ofString "cells") : Key) = Sum.inr (Str.ofString "turn")) := by decide +kernel
  unfold dS; rw [valV_neg e, valV_pos rfl]
theorem val_cells (c : Addr) (t : Int) : valV (dS c t) (Sum.inr "cells") = some (.ref c) := by
  unfold dS; rw [valV_pos rfl]
theorem put_turn (c : Addr) (t u : Int) : putK (dS c t) (Sum.inr "turn") (.int u) = dS c u := by
  have e : ¬ ((Sum.inr (Str.ofString "cells") : Key) = Sum.inr (Str.ofString "turn")) := by decide +kernel
  unfold putK dS
  simp [e]

theorem dget_turn {H : Hp} {d c : Addr} {t : Int} (h : H d = some (.dK (dS c t))) : DGet H d (.str "turn") (some (.int t)) := by
  rw [← val_turn c t]; exact DGet.k (k := Sum.inr "turn") h
theorem dget_cells {H : Hp} {d c : Addr} {t : Int} (h : H d = some (.dK (dS c t))) : DGet H d (.str "cells") (some (.ref c)) := by
  rw [← val_cells c t]; exact DGet.k (k := Sum.inr "cells") h
theorem dput_turn {H : Hp} {d c : Addr} {t : Int} (u : Int) (h : H d = some (.dK (dS c t))) : DPut H d (.str "turn") (.int u) (upd H d (.dK (dS c u))) := by
  rw [← put_turn c t u]; exact DPut.k (k := Sum.inr "turn") h (by show 2 < sizeLine; decide)
theorem ge18 (x : Int) : (decide ((10 : Int) ^ (18 : Int).toNat ≤ x) = true) ↔ 1000000000000000000 ≤ x := by
  have e : (10 : Int) ^ (18 : Int).toNat = 1000000000000000000 := by decide
  rw [e, decide_eq_true_eq]
theorem cmul_mod (a b : Int) {m : Int} (h0 : 0 < m) (h1 : m < 2 ^ 64) : CMul (a % m) b := by
  have p := Int.emod_nonneg a (show m ≠ 0 by omega)
  have q := Int.emod_lt_of_pos a h0
  exact .inl ⟨by omega, by omega⟩
theorem mod_at {xs : List Int} {u : Int} (hx : xs ≠ []) : ∃ (j : Nat) (y : Int), u % ((xs.map V.int).length : Int) = (j : Int) ∧ j < xs.length ∧ xs[j]? = some y := by
  have h0 : 0 < xs.length := List.length_pos_iff.mpr hx
  rw [List.length_map]
  have a := Int.emod_nonneg u (show (xs.length : Int) ≠ 0 by omega)
  have b := Int.emod_lt_of_pos u (show (0 : Int) < (xs.length : Int) by omega)
  refine ⟨(u % (xs.length : Int)).toNat, xs[(u % (xs.length : Int)).toNat]'(by omega), by omega, by omega, ?_⟩
  exact List.getElem?_eq_getElem _

section
variable {K : PySem.W.Frag}
theorem cut63 {xs : List V} (h : xs.length ≤ 63) : cutV xs none (some 63) = xs := by
  unfold cutV
  rw [HT.sIx_none, show HT.sIx xs.length xs.length (some 63) = min 63 xs.length from HT.sIx_nat xs.length xs.length 63, Nat.min_eq_right h]
  simp
theorem dp_ints {H : Hp} (ns : List Int) : DpAll K H (ns.map V.int) (ns.map PyData.int) := by
  induction ns with
  | nil => exact .nil
  | cons n r ih => exact .cons (.int n) ih
theorem same_tup {H H' : Hp} {a : Addr} {xs : List V} (e : Same H H') (h : SqT K H a xs) : SqT K H' a xs := by
  rcases h with (h | ⟨o, h⟩) | h
  · exact .inl (.inl (e _ _ h))
  · exact .inl (.inr ⟨o, e _ _ h⟩)
  · exact .inr h
mutual
theorem dp_same {H H' : Hp} (s : Same H H') : ∀ {v : V} {d : PyData}, Dp K H v d → Dp K H' v d
  | _, _, .non => .non
  | _, _, .bl b => .bl b
  | _, _, .int i => .int i
  | _, _, .str x => .str x
  | _, _, .lst h a => .lst (s.seq h) (dpAll_same s a)
  | _, _, .tup h a => .tup (same_tup s h) (dpAll_same s a)
theorem dpAll_same {H H' : Hp} (s : Same H H') : ∀ {vs : List V} {ds : List PyData}, DpAll K H vs ds → DpAll K H' vs ds
  | _, _, .nil => .nil
  | _, _, .cons h t => .cons (dp_same s h) (dpAll_same s t)
end
theorem dpAll_len {H : Hp} : ∀ {vs : List V} {ds : List PyData}, DpAll K H vs ds → vs.length = ds.length
  | _, _, .nil => rfl
  | _, _, .cons _ t => by rw [List.length_cons, List.length_cons, dpAll_len t]
theorem dpAll_at {H : Hp} : ∀ {vs : List V} {ds : List PyData} {i : Nat} {v : V}, DpAll K H vs ds → vs[i]? = some v → ∃ d, ds[i]? = some d ∧ Dp K H v d
  | _, _, _, _, .nil, h => by simp at h
  | _, _, 0, _, .cons h _, e => ⟨_, rfl, by cases e; exact h⟩
  | _, _, i + 1, _, .cons _ t, e => dpAll_at (i := i) t e
theorem depth_at : ∀ {ds : List PyData} {i : Nat} {d : PyData}, ds[i]? = some d → d.depth ≤ PyData.depthAll ds
  | [], _, _, h => by simp at h
  | x :: r, 0, d, h => by cases h; unfold PyData.depthAll; exact Nat.le_max_left ..
  | x :: r, i + 1, d, h => by
    have := depth_at (ds := r) (i := i) (d := d) h
    unfold PyData.depthAll
    exact Nat.le_trans this (Nat.le_max_right ..)
theorem tyx_list {H : Hp} {a : Addr} {xs : List V} (h : SqL K H a xs) : TyX K H (.ref a) (.type "list") := by
  rcases h with (h | ⟨o, h⟩) | ⟨o, its, n, h1, h2, _⟩
  · exact .base (.lst h)
  · exact .base (.frz h)
  · exact .kList h1 h2
theorem tyx_tup {H : Hp} {a : Addr} {xs : List V} (h : SqT K H a xs) : TyX K H (.ref a) (.type "tuple") := by
  rcases h with (h | ⟨o, h⟩) | ⟨o, its, n, h1, h2, _⟩
  · exact .base (.tup h)
  · exact .fTuple h
  · exact .kTuple h1 h2
theorem walk_zipT {a b : Addr} {xs ys : List V} {n : Nat} (hn : n = min xs.length ys.length) : Walk (RZ.ItzT K a b) n (fun H => SqT K H a xs ∧ SqT K H b ys) (YPair (fun i => xs[i]?) (fun i => ys[i]?)) := by
  subst hn
  refine ⟨fun i _ hi q => ?_, fun _ q => ⟨xs, ys, q.1, q.2, by omega⟩, fun i H v H' _ q y => ?_⟩
  · exact ⟨xs, ys, xs[i]'(by omega), ys[i]'(by omega), q.1, q.2, List.getElem?_eq_getElem _, List.getElem?_eq_getElem _⟩
  · obtain ⟨T, x, z, e1, e2, e3, e4, e5⟩ := y
    exact ⟨T, x, z, e1, e2, e3, e4 xs q.1, e5 ys q.2⟩
/-- the longest list within -/
def widAll : List PyData → Nat
  | [] => 0
  | x :: xs => max (wid x) (widAll xs)
where wid : PyData → Nat
  | .list xs => max xs.length (widAll xs)
  | .tuple xs => max xs.length (widAll xs)
  | _ => 0
theorem wid_at : ∀ {ds : List PyData} {i : Nat} {d : PyData}, ds[i]? = some d → widAll.wid d ≤ widAll ds
  | [], _, _, h => by simp at h
  | x :: r, 0, d, h => by cases h; unfold widAll; exact Nat.le_max_left ..
  | x :: r, i + 1, d, h => by
    have := wid_at (ds := r) (i := i) (d := d) h
    unfold widAll
    exact Nat.le_trans this (Nat.le_max_right ..)
theorem depth_ints (ns : List Int) : (PyData.list (ns.map PyData.int)).depth = 1 := by
  have h : ∀ l : List Int, PyData.depthAll (l.map PyData.int) = 0 := by
    intro l
    induction l with
    | nil => rfl
    | cons x r ih =>
      show max 0 (PyData.depthAll (r.map PyData.int)) = 0
      rw [ih]
      rfl
  show PyData.depthAll (ns.map PyData.int) + 1 = 1
  rw [h]
theorem wid_ints (ns : List Int) : widAll.wid (PyData.list (ns.map PyData.int)) = ns.length := by
  have h : ∀ l : List Int, widAll (l.map PyData.int) = 0 := by
    intro l
    induction l with
    | nil => rfl
    | cons x r ih =>
      show max 0 (widAll (r.map PyData.int)) = 0
      rw [ih]
      rfl
  show max (ns.map PyData.int).length (widAll (ns.map PyData.int)) = ns.length
  rw [h, List.length_map, Nat.max_zero]
theorem flat_ints (ns : List Int) : (ns.map V.int).all flatV = true := by
  rw [List.all_eq_true]
  intro x hx
  obtain ⟨k, _, rfl⟩ := List.mem_map.mp hx
  rfl
end
section
variable {P : Program} {w : World} {K : PySem.W.Frag} {mg : Str → Option Value} {base : Heap}
/-- a def with values that may be left out -/
abbrev FunV (K : PySem.W.Frag) (x : Str) (st : Stmt) (dvs : List V) (f : Addr) (fd : FuncData) : Prop := FunD K x x (defArgs st) (defBody st) (defScope st) dvs [] f fd
theorem okD {x : Str} {st : Stmt} {dvs : List V} {f : Addr} {fd : FuncData} {N ps : List Str} {k : Nat} {sp : Sp} (F : FunV K x st dvs f fd) (S : FnScope N ps (defScope st)) (len : ∀ vs H Q E, sp vs H Q E → vs.length = ps.length)
    (body : ∀ (cdv : Value) (A : Around) (outer : List Env) (s : Shared) (H : Hp) (vs : List V) (Q : VK) (E : XK), Room k (A.deeper (envOfC x (defScope st) s.heap.objs.size f cdv)) → sp vs H Q E →
      ∃ t, PSs (cxOf CX0 P w K mg base N x (defScope st) f cdv A outer s H E).nox (defBody st) t ∧ t { nx := fun _ H' => Q .non H', rt := Q } (start N vs) H) : FnOk P w K mg base CX0 (k + 1) f fd ps sp :=
  FunD.ok F S len fun cdv A outer s H vs Q E hr h => by
    obtain ⟨t, ht, hq⟩ := body cdv A outer s H vs Q E hr h
    exact ⟨t, ht.nox, hq⟩
/-- a def that may be called by its name, the values ds being left out -/
def ClD (P : Program) (w : World) (K : PySem.W.Frag) (mg : Str → Option Value) (base : Heap) (k : Nat) (x : Str) (ds : List V) (sp : Sp) : Prop :=
  ∃ (f : Addr) (fd : FuncData) (ps : List Str) (dus : List Value), FnOk P w K mg base CX0 k f fd ps sp ∧ mg x = some (.ref f) ∧ PySem.W.keepIn K (.ref f) = true ∧ Binds K fd ps dus ∧ Vals ds dus
theorem pe_cd {X : Cx} {k j : Nat} {x : Str} {ds : List V} {sp : Sp} {e : Expr} {es : List Expr} {t : TA} {p pos : Pos} (c : ClD X.prog X.w X.K X.mg X.base k x ds sp) (hr : Room j X.A) (hk : k ≤ j) (hg : Gl X x) (ha : PA X (e :: es) t) (hdb : (x == ("__debug__" : Str)) = false := by decide)
    (he : starEach (e :: es) X.env = (false, eval e X.env) :: starEach es X.env := by rfl) (hpl : (backTo pos (starEach es X.env)).any (·.1) = false := by rfl) : PE X (.Call (.Name x p) (e :: es) [] pos) (tCall sp ds E0 t) := by
  obtain ⟨f, fd, ps, dus, G, hm, kp, b, dv⟩ := c
  exact pe_call G (hr.mono hk) hg hm kp b dv pass0 ha hdb he hpl
theorem Cl.mono {k j : Nat} {x : Str} {sp : Sp} (c : Cl P w K mg base k x sp) (h : k ≤ j) : Cl P w K mg base j x sp := by
  obtain ⟨f, fd, ps, G, r⟩ := c
  exact ⟨f, fd, ps, G.mono h, r⟩
end
end Pot

namespace Pot
open PySem PySem.Spec PyProof.Rows L2
/-! ### a box of three numbers from which is drawn, and all that stands beside it -/
def Bx (H : Hp) (b : Addr) : Prop := ∃ x y z : Int, H b = some (.lst [.int x, .int y, .int z])
/-- the heap without some -/
def off (H : Hp) (S : List Addr) : Hp := fun x => if x ∈ S then none else H x
theorem off_in {H : Hp} {S : List Addr} {x : Addr} (h : x ∈ S) : off H S x = none := if_pos h
theorem off_out {H : Hp} {S : List Addr} {x : Addr} (h : x ∉ S) : off H S x = H x := if_neg h
theorem off_mem {H : Hp} {S : List Addr} {x : Addr} {o : HO} (h : off H S x = some o) : x ∉ S := fun e => by rw [off_in e] at h; cases h
theorem off_sub {H : Hp} {S : List Addr} : Same (off H S) H := fun x o h => by
  have n := off_mem h
  rw [off_out n] at h; exact h
theorem off_mono {H : Hp} {S T : List Addr} (h : ∀ x ∈ T, x ∈ S) : Same (off H S) (off H T) := fun x o e => by
  have n := off_mem e
  rw [off_out n] at e
  rw [off_out fun z => n (h x z)]; exact e
/-- what stands beside S stands -/
abbrev Sm (S : List Addr) (H H' : Hp) : Prop := Same (off H S) (off H' S)
theorem sm_mono {H H' : Hp} {S T : List Addr} (h : ∀ x ∈ T, x ∈ S) (s : Sm T H H') : Sm S H H' := fun x o e => by
  have n := off_mem e
  rw [off_out n] at e ⊢
  have n2 : x ∉ T := fun z => n (h x z)
  have := s x o (by rw [off_out n2]; exact e)
  rw [off_out n2] at this; exact this
theorem sm_one {H H' : Hp} {S : List Addr} {b : Addr} (h : b ∈ S) (s : Sm [b] H H') : Sm S H H' := sm_mono (fun x hx => by rw [List.mem_singleton.mp hx]; exact h) s
theorem sm_of {H H' : Hp} {S : List Addr} (s : Same H H') : Sm S H H' := fun x o h => by
  have n := off_mem h
  rw [off_out n] at h ⊢; exact s x o h
theorem sm_put {H : Hp} {S : List Addr} {p : Addr} {o : HO} (h : H p = none) : Sm S H (upd H p o) := sm_of (same_upd h)
theorem sm_wr {H : Hp} {S : List Addr} {p : Addr} {o : HO} (h : p ∈ S) : Sm S H (upd H p o) := fun x u e => by
  have n := off_mem e
  rw [off_out n] at e ⊢
  have ne : x ≠ p := fun z => n (by rw [z]; exact h)
  rw [upd_ne ne]; exact e
theorem at_off {H : Hp} {S : List Addr} {x : Addr} {o : HO} (h : off H S x = some o) : H x = some o := off_sub x o h
theorem Bx.bx {H : Hp} {b : Addr} (B : Bx H b) : Bx H b := B
theorem Bx.ne {H : Hp} {b p : Addr} (B : Bx H b) (h : H p = none) : p ≠ b := fun e => by
  obtain ⟨x, y, z, B⟩ := B
  rw [e, B] at h; cases h
theorem Bx.same {H H' : Hp} {b : Addr} (B : Bx H b) (s : Same H H') : Bx H' b := by
  obtain ⟨x, y, z, B⟩ := B
  exact ⟨x, y, z, s _ _ B⟩
theorem Bx.put {H : Hp} {b p : Addr} {o : HO} (B : Bx H b) (h : H p = none) : Bx (upd H p o) b := B.same (same_upd h)
theorem Bx.wr {H : Hp} {b p : Addr} {o : HO} (B : Bx H b) (h : p ≠ b) : Bx (upd H p o) b := by
  obtain ⟨x, y, z, B⟩ := B
  exact ⟨x, y, z, by rw [upd_ne h.symm]; exact B⟩
/-- all of S are there -/
def Live (S : List Addr) (H : Hp) : Prop := ∀ s ∈ S, H s ≠ none
theorem Live.same {S : List Addr} {H H' : Hp} (L : Live S H) (s : Same H H') : Live S H' := fun x hx e => by
  cases h : H x with
  | none => exact L x hx h
  | some o => rw [s x o h] at e; cases e
theorem Live.box {S : List Addr} {H H' : Hp} {b : Addr} (L : Live S H) (B : Bx H' b) (s : Sm [b] H H') : Live S H' := fun x hx e => by
  by_cases hb : x = b
  · obtain ⟨_, _, _, B⟩ := B
    rw [hb, B] at e; cases e
  · have n : x ∉ [b] := fun z => hb (List.mem_singleton.mp z)
    cases h : H x with
    | none => exact L x hx h
    | some o =>
      have := s x o (by rw [off_out n]; exact h)
      rw [off_out n, e] at this; cases this
theorem Live.put {S : List Addr} {H : Hp} {p : Addr} {o : HO} (L : Live S H) (h : H p = none) : Live S (upd H p o) := L.same (same_upd h)
theorem Live.wr {S : List Addr} {H : Hp} {p : Addr} {o : HO} (L : Live S H) : Live S (upd H p o) := fun x hx e => by
  by_cases hp : x = p
  · rw [hp, upd_same] at e; cases e
  · rw [upd_ne hp] at e; exact L x hx e
theorem Live.one {H : Hp} {b : Addr} (B : Bx H b) : Live [b] H := fun x hx e => by
  obtain ⟨_, _, _, B⟩ := B
  rw [List.mem_singleton.mp hx, B] at e; cases e
theorem Live.out {S : List Addr} {H : Hp} {p : Addr} (L : Live S H) (h : H p = none) : p ∉ S := fun z => L p z h
theorem Live.cons {S : List Addr} {H : Hp} {p : Addr} {o : HO} (L : Live S H) (h : H p = some o) : Live (p :: S) H := fun x hx e => by
  rcases List.mem_cons.mp hx with z | z
  · rw [z, h] at e; cases e
  · exact L x z e
theorem off_new {H : Hp} {S : List Addr} {p : Addr} {o : HO} (L : Live S H) (h : H p = none) : off (upd H p o) S p = some o := by
  rw [off_out (L.out h)]; exact upd_same
theorem off_upd {H : Hp} {S : List Addr} {p : Addr} {o : HO} (h : p ∉ S) : off (upd H p o) S p = some o := by
  rw [off_out h]; exact upd_same
section
variable {K : PySem.W.Frag}
theorem sq_off {H : Hp} {S : List Addr} {a : Addr} {xs : List V} (h : SqL K (off H S) a xs) : SqL K H a xs := off_sub.seq h
theorem sqt_off {H : Hp} {S : List Addr} {a : Addr} {xs : List V} (h : SqT K (off H S) a xs) : SqT K H a xs := same_tup off_sub h
theorem dp_off {H : Hp} {S : List Addr} {v : V} {d : PyData} (h : Dp K (off H S) v d) : Dp K H v d := dp_same off_sub h
/-- a new list is none of S, beside which the rest stands as it was -/
theorem off_fresh {H : Hp} {S : List Addr} {p : Addr} {o : HO} (h : H p = none) : off (upd H p o) (p :: S) = off H S := by
  funext x; unfold off
  by_cases e : x = p
  · subst e
    rw [if_pos List.mem_cons_self, h]
    split <;> rfl
  · have : (x ∈ p :: S) ↔ x ∈ S := by rw [List.mem_cons]; exact ⟨fun z => z.resolve_left e, .inr⟩
    by_cases m : x ∈ S
    · rw [if_pos m, if_pos (this.mpr m)]
    · rw [if_neg m, if_neg fun z => m (this.mp z), upd_ne e]
end
/-! ### what is made of numbers, texts, truths, None, lists and tuples -/
/-- numbers within m, texts of at most 2000 signs -/
def gdAll (m : Nat) : List PyData → Prop
  | [] => True
  | x :: xs => gd m x ∧ gdAll m xs
where gd (m : Nat) : PyData → Prop
  | .none => True
  | .bool _ => True
  | .int i => i.natAbs ≤ m
  | .str x => x.length ≤ 2000 ∧ ∀ c ∈ x.cps.toList, c < 1114112
  | .list xs => gdAll m xs
  | .tuple xs => gdAll m xs
  | .dict _ => False
abbrev gd (m : Nat) (d : PyData) : Prop := gdAll.gd m d
theorem gdAll_iff {m : Nat} : ∀ {ds : List PyData}, gdAll m ds ↔ ∀ d ∈ ds, gd m d
  | [] => ⟨fun _ _ h => (List.not_mem_nil h).elim, fun _ => trivial⟩
  | x :: xs => by
    constructor
    · intro h d hd
      rcases List.mem_cons.mp hd with e | e
      · rw [e]; exact h.1
      · exact gdAll_iff.mp h.2 d e
    · intro h
      exact ⟨h x List.mem_cons_self, gdAll_iff.mpr fun d hd => h d (List.mem_cons_of_mem _ hd)⟩
mutual
theorem gd_mono {m n : Nat} (h : m ≤ n) : ∀ d : PyData, gd m d → gd n d
  | .none, _ => trivial
  | .bool _, _ => trivial
  | .int i, g => Nat.le_trans g h
  | .str _, g => g
  | .list xs, g => gdAll_mono h xs g
  | .tuple xs, g => gdAll_mono h xs g
  | .dict _, g => g.elim
theorem gdAll_mono {m n : Nat} (h : m ≤ n) : ∀ ds : List PyData, gdAll m ds → gdAll n ds
  | [], _ => trivial
  | x :: xs, g => ⟨gd_mono h x g.1, gdAll_mono h xs g.2⟩
end
theorem log_small' {i : Int} (h : i.natAbs ≤ 2000000) : i.natAbs.log2 < 1920 := by
  by_cases z : i.natAbs = 0
  · rw [z]; decide
  · have := (Nat.log2_lt z).mpr (show i.natAbs < 2 ^ 21 from Nat.lt_of_le_of_lt h (by decide))
    omega
mutual
theorem gd_fine {m : Nat} (h : m ≤ 2000000) : ∀ d : PyData, gd m d → fineAll.fine d
  | .none, _ => trivial
  | .bool _, _ => trivial
  | .int i, g => log_small' (Nat.le_trans g h)
  | .str _, g => fun c hc => Nat.lt_trans (g.2 c hc) (by decide)
  | .list xs, g => gdAll_fine h xs g
  | .tuple xs, g => gdAll_fine h xs g
  | .dict _, g => g.elim
theorem gdAll_fine {m : Nat} (h : m ≤ 2000000) : ∀ ds : List PyData, gdAll m ds → fineAll ds
  | [], _ => trivial
  | x :: xs, g => ⟨gd_fine h x g.1, gdAll_fine h xs g.2⟩
end
theorem costAll_app (xs ys : List PyData) : costAll (xs ++ ys) = costAll xs + costAll ys := by
  induction xs with
  | nil => simp [costAll]
  | cons x xs ih => simp only [List.cons_append, costAll, ih]; omega
theorem cost_mem {ds : List PyData} {d : PyData} (h : d ∈ ds) : costAll.cost d + 2 ≤ costAll ds := by
  induction ds with
  | nil => exact (List.not_mem_nil h).elim
  | cons x xs ih =>
    show _ ≤ costAll.cost x + 2 + costAll xs
    rcases List.mem_cons.mp h with e | e
    · rw [e]; omega
    · have := ih e; omega
theorem len_cost : ∀ ds : List PyData, 2 * ds.length ≤ costAll ds
  | [] => Nat.le_refl _
  | x :: xs => by
    have := len_cost xs
    show 2 * (xs.length + 1) ≤ costAll.cost x + 2 + costAll xs
    omega
theorem depthAll_iff {D : Nat} : ∀ {ds : List PyData}, PyData.depthAll ds ≤ D ↔ ∀ d ∈ ds, d.depth ≤ D
  | [] => ⟨fun _ _ h => (List.not_mem_nil h).elim, fun _ => Nat.zero_le _⟩
  | x :: xs => by
    show max x.depth (PyData.depthAll xs) ≤ D ↔ _
    rw [Nat.max_le, depthAll_iff (ds := xs)]
    constructor
    · rintro ⟨h1, h2⟩ d hd
      rcases List.mem_cons.mp hd with e | e
      · rw [e]; exact h1
      · exact h2 d e
    · intro h
      exact ⟨h x List.mem_cons_self, fun d hd => h d (List.mem_cons_of_mem _ hd)⟩
/-- rows of parts: of numbers within m, their cost, how deep and how wide each -/
structure Ths (m C D W : Nat) (ds : List PyData) : Prop where
  g : ∀ d ∈ ds, gd m d
  c : costAll ds ≤ C
  d : ∀ d ∈ ds, d.depth ≤ D
  w : ∀ d ∈ ds, widAll.wid d ≤ W
/-- a thing: of numbers within m, its cost, how deep, how wide -/
structure Th (m C D W : Nat) (dd : PyData) : Prop where
  g : gd m dd
  c : costAll.cost dd ≤ C
  d : dd.depth ≤ D
  w : widAll.wid dd ≤ W
theorem widAll_iff {D : Nat} : ∀ {ds : List PyData}, widAll ds ≤ D ↔ ∀ d ∈ ds, widAll.wid d ≤ D
  | [] => ⟨fun _ _ h => (List.not_mem_nil h).elim, fun _ => Nat.zero_le _⟩
  | x :: xs => by
    show max (widAll.wid x) (widAll xs) ≤ D ↔ _
    rw [Nat.max_le, widAll_iff (ds := xs)]
    constructor
    · rintro ⟨h1, h2⟩ d hd
      rcases List.mem_cons.mp hd with e | e
      · rw [e]; exact h1
      · exact h2 d e
    · intro h
      exact ⟨h x List.mem_cons_self, fun d hd => h d (List.mem_cons_of_mem _ hd)⟩
section
variable {m n C E D F W U : Nat} {d x : PyData} {ds xs ys : List PyData}
theorem Th.mono (h : Th m C D W d) (a : m ≤ n) (b : C ≤ E) (c : D ≤ F) (e : W ≤ U) : Th n E F U d := ⟨gd_mono a d h.g, Nat.le_trans h.c b, Nat.le_trans h.d c, Nat.le_trans h.w e⟩
theorem Ths.mono (h : Ths m C D W ds) (a : m ≤ n) (b : C ≤ E) (c : D ≤ F) (e : W ≤ U) : Ths n E F U ds := ⟨fun x hx => gd_mono a x (h.g x hx), Nat.le_trans h.c b, fun x hx => Nat.le_trans (h.d x hx) c, fun x hx => Nat.le_trans (h.w x hx) e⟩
theorem Ths.app (h : Ths m C D W xs) (k : Ths m E D W ys) : Ths m (C + E) D W (xs ++ ys) :=
  ⟨fun d hd => (List.mem_append.mp hd).elim (h.g d) (k.g d), by rw [costAll_app]; exact Nat.add_le_add h.c k.c, fun d hd => (List.mem_append.mp hd).elim (h.d d) (k.d d), fun d hd => (List.mem_append.mp hd).elim (h.w d) (k.w d)⟩
theorem Ths.nil : Ths m 0 D W [] := ⟨fun _ h => (List.not_mem_nil h).elim, Nat.le_refl _, fun _ h => (List.not_mem_nil h).elim, fun _ h => (List.not_mem_nil h).elim⟩
theorem Ths.one (h : Th m C D W x) : Ths m (C + 2) D W [x] :=
  ⟨fun d hd => by rw [List.mem_singleton.mp hd]; exact h.g, by show costAll.cost x + 2 + 0 ≤ _; have := h.c; omega, fun d hd => by rw [List.mem_singleton.mp hd]; exact h.d, fun d hd => by rw [List.mem_singleton.mp hd]; exact h.w⟩
theorem Ths.mem (h : Ths m C D W ds) (e : d ∈ ds) : Th m C D W d := ⟨h.g d e, by have := cost_mem e; have := h.c; omega, h.d d e, h.w d e⟩
theorem Ths.len (h : Ths m C D W ds) : 2 * ds.length ≤ C := Nat.le_trans (len_cost ds) h.c
theorem Ths.list (h : Ths m C D W ds) (l : ds.length ≤ W) : Th m (C + 3) (D + 1) W (.list ds) :=
  ⟨gdAll_iff.mpr h.g, by show costAll ds + 3 ≤ _; have := h.c; omega, by show PyData.depthAll ds + 1 ≤ _; have := depthAll_iff.mpr h.d; omega, by show max ds.length (widAll ds) ≤ W; exact Nat.max_le.mpr ⟨l, widAll_iff.mpr h.w⟩⟩
theorem Ths.tuple (h : Ths m C D W ds) (l : ds.length ≤ W) : Th m (C + 3) (D + 1) W (.tuple ds) :=
  ⟨gdAll_iff.mpr h.g, by show costAll ds + 3 ≤ _; have := h.c; omega, by show PyData.depthAll ds + 1 ≤ _; have := depthAll_iff.mpr h.d; omega, by show max ds.length (widAll ds) ≤ W; exact Nat.max_le.mpr ⟨l, widAll_iff.mpr h.w⟩⟩
theorem Th.ofList (h : Th m C D W (.list ds)) : Ths m (C - 3) (D - 1) W ds ∧ ds.length ≤ W ∧ 3 ≤ C ∧ 1 ≤ D := by
  have h1 : costAll ds + 3 ≤ C := h.c
  have h2 : PyData.depthAll ds + 1 ≤ D := h.d
  have h3 : max ds.length (widAll ds) ≤ W := h.w
  exact ⟨⟨gdAll_iff.mp h.g, by omega, depthAll_iff.mp (by omega), widAll_iff.mp (Nat.le_trans (Nat.le_max_right ..) h3)⟩, Nat.le_trans (Nat.le_max_left ..) h3, by omega, by omega⟩
theorem Th.ofTuple (h : Th m C D W (.tuple ds)) : Ths m (C - 3) (D - 1) W ds ∧ ds.length ≤ W ∧ 3 ≤ C ∧ 1 ≤ D := by
  have h1 : costAll ds + 3 ≤ C := h.c
  have h2 : PyData.depthAll ds + 1 ≤ D := h.d
  have h3 : max ds.length (widAll ds) ≤ W := h.w
  exact ⟨⟨gdAll_iff.mp h.g, by omega, depthAll_iff.mp (by omega), widAll_iff.mp (Nat.le_trans (Nat.le_max_right ..) h3)⟩, Nat.le_trans (Nat.le_max_left ..) h3, by omega, by omega⟩
theorem costAll_take (n : Nat) (ds : List PyData) : costAll (ds.take n) ≤ costAll ds := by
  have := costAll_app (ds.take n) (ds.drop n)
  rw [List.take_append_drop] at this; omega
theorem costAll_drop (n : Nat) (ds : List PyData) : costAll (ds.drop n) ≤ costAll ds := by
  have := costAll_app (ds.take n) (ds.drop n)
  rw [List.take_append_drop] at this; omega
theorem costAll_rev : ∀ ds : List PyData, costAll ds.reverse = costAll ds
  | [] => rfl
  | x :: xs => by rw [List.reverse_cons, costAll_app, costAll_rev xs]; show _ + (costAll.cost x + 2 + 0) = costAll.cost x + 2 + costAll xs; omega
theorem Ths.sub (h : Ths m C D W ds) (s : ∀ x ∈ xs, x ∈ ds) (c : costAll xs ≤ C) : Ths m C D W xs := ⟨fun d hd => h.g d (s d hd), c, fun d hd => h.d d (s d hd), fun d hd => h.w d (s d hd)⟩
theorem Ths.take (h : Ths m C D W ds) (n : Nat) : Ths m C D W (ds.take n) := h.sub (fun d hd => List.mem_of_mem_take hd) (Nat.le_trans (costAll_take n ds) h.c)
theorem Ths.drop (h : Ths m C D W ds) (n : Nat) : Ths m C D W (ds.drop n) := h.sub (fun d hd => List.mem_of_mem_drop hd) (Nat.le_trans (costAll_drop n ds) h.c)
theorem Ths.rev (h : Ths m C D W ds) : Ths m C D W ds.reverse := h.sub (fun d hd => List.mem_reverse.mp hd) (by rw [costAll_rev]; exact h.c)
theorem costAll_set : ∀ (ds : List PyData) (i : Nat) (x : PyData), costAll (ds.set i x) ≤ costAll ds + (costAll.cost x + 2)
  | [], _, _ => Nat.zero_le _
  | y :: ys, 0, x => by show costAll.cost x + 2 + costAll ys ≤ costAll.cost y + 2 + costAll ys + _; omega
  | y :: ys, i + 1, x => by
    have := costAll_set ys i x
    show costAll.cost y + 2 + costAll (ys.set i x) ≤ costAll.cost y + 2 + costAll ys + _
    omega
theorem Ths.set {i : Nat} (h : Ths m C D W ds) (k : Th m E D W x) : Ths m (C + E + 2) D W (ds.set i x) :=
  ⟨fun d hd => (List.mem_or_eq_of_mem_set hd).elim (h.g d) fun e => by rw [e]; exact k.g, Nat.le_trans (costAll_set ds i x) (by have := h.c; have := k.c; omega), fun d hd => (List.mem_or_eq_of_mem_set hd).elim (h.d d) fun e => by rw [e]; exact k.d, fun d hd => (List.mem_or_eq_of_mem_set hd).elim (h.w d) fun e => by rw [e]; exact k.w⟩
end
section
variable {K : PySem.W.Frag} {H : Hp}
theorem dpAll_app' : ∀ {xs ys : List V} {ds es : List PyData}, DpAll K H xs ds → DpAll K H ys es → DpAll K H (xs ++ ys) (ds ++ es)
  | _, _, _, _, .nil, h => h
  | _, _, _, _, .cons h t, h2 => .cons h (dpAll_app' t h2)
theorem dpAll_take : ∀ {xs : List V} {ds : List PyData} (n : Nat), DpAll K H xs ds → DpAll K H (xs.take n) (ds.take n)
  | _, _, 0, _ => .nil
  | _, _, _ + 1, .nil => .nil
  | _, _, n + 1, .cons h t => .cons h (dpAll_take n t)
theorem dpAll_drop : ∀ {xs : List V} {ds : List PyData} (n : Nat), DpAll K H xs ds → DpAll K H (xs.drop n) (ds.drop n)
  | _, _, 0, h => h
  | _, _, _ + 1, .nil => .nil
  | _, _, n + 1, .cons _ t => dpAll_drop n t
theorem dpAll_rev : ∀ {xs : List V} {ds : List PyData}, DpAll K H xs ds → DpAll K H xs.reverse ds.reverse
  | _, _, .nil => .nil
  | _, _, .cons h t => by rw [List.reverse_cons, List.reverse_cons]; exact dpAll_app' (dpAll_rev t) (.cons h .nil)
theorem dpAll_set : ∀ {xs : List V} {ds : List PyData} {i : Nat} {v : V} {d : PyData}, DpAll K H xs ds → Dp K H v d → DpAll K H (xs.set i v) (ds.set i d)
  | _, _, _, _, _, .nil, _ => .nil
  | _, _, 0, _, _, .cons _ t, k => .cons k t
  | _, _, _ + 1, _, _, .cons h t, k => .cons h (dpAll_set t k)
/-- a slice of a row of parts -/
theorem dp_cut {xs : List V} {ds : List PyData} {lo hi : Option Int} {m C D W : Nat} (h : DpAll K H xs ds) (t : Ths m C D W ds) : ∃ es, DpAll K H (cutV xs lo hi) es ∧ Ths m C D W es ∧ es.length ≤ ds.length := by
  unfold cutV
  exact ⟨_, dpAll_take _ (dpAll_drop _ h), (t.drop _).take _, by rw [List.length_take, List.length_drop]; omega⟩
theorem dp_lst' {v : V} {ds : List PyData} (h : Dp K H v (.list ds)) : ∃ a xs, v = .ref a ∧ SqL K H a xs ∧ DpAll K H xs ds := by
  cases h with
  | lst h a => exact ⟨_, _, rfl, h, a⟩
end
end Pot
namespace Pot
open PySem PySem.Spec PyProof.Rows L2
theorem sm_at {H H' : Hp} {S : List Addr} {x : Addr} {o : HO} (s : Sm S H H') (n : x ∉ S) (h : H x = some o) : H' x = some o := by
  have := s x o (by rw [off_out n]; exact h)
  rw [off_out n] at this; exact this
theorem sm1_at {H H' : Hp} {b x : Addr} {o : HO} (s : Sm [b] H H') (n : x ≠ b) (h : H x = some o) : H' x = some o := sm_at s (fun z => n (List.mem_singleton.mp z)) h
theorem smp {H H' : Hp} {S : List Addr} {p : Addr} {o : HO} (s : Sm S H H') (h : H p = none) : Sm S H (upd H' p o) := fun x u e => by
  have n := off_mem e
  have ne : x ≠ p := fun z => by
    rw [off_out n, z, h] at e; cases e
  have := s x u e
  rw [off_out n] at this ⊢
  rw [upd_ne ne]; exact this
theorem sm_free {H H' : Hp} {b l : Addr} (s : Sm [b] H H') (B : Bx H' b) (h : H' l = none) : H l = none := by
  have nb := B.ne h
  have n : l ∉ [b] := fun z => nb (List.mem_singleton.mp z)
  cases e : H l with
  | none => rfl
  | some o => rw [sm_at s n e] at h; cases h
theorem cut_map {α : Type} (f : α → V) (ns : List α) (lo hi : Option Int) : cutV (ns.map f) lo hi = ((ns.drop (HT.sIx ns.length 0 lo)).take (HT.sIx ns.length ns.length hi - HT.sIx ns.length 0 lo)).map f := by
  unfold cutV
  rw [List.length_map, List.map_take, List.map_drop]
theorem cut_head {xs : List V} {k : Nat} : cutV xs none (some (k : Int)) = xs.take k := by
  unfold cutV
  rw [HT.sIx_none, HT.sIx_nat, List.drop_zero, Nat.sub_zero]
  by_cases h : k ≤ xs.length
  · rw [Nat.min_eq_left h]
  · rw [Nat.min_eq_right (by omega), List.take_length, List.take_of_length_le (by omega)]
theorem cut_tail {xs : List V} {k : Nat} : cutV xs (some (k : Int)) none = xs.drop k := by
  unfold cutV
  rw [HT.sIx_none, HT.sIx_nat]
  by_cases h : k ≤ xs.length
  · rw [Nat.min_eq_left h, List.take_of_length_le (by rw [List.length_drop]; exact Nat.le_refl _)]
  · rw [Nat.min_eq_right (by omega), Nat.sub_self, List.take_zero, List.drop_of_length_le (by omega)]
end Pot
namespace Pot
open PySem PySem.Spec PyProof.Rows L2
section
variable {K : PySem.W.Frag} {H : Hp} {t : Addr} {d : PyData} {ds : List PyData}
theorem seq_dp {x : V} (h : Dp K H x d) (e : d = .list ds ∨ d = .tuple ds) : ∃ t zs, x = .ref t ∧ (SqL K H t zs ∨ SqT K H t zs) ∧ DpAll K H zs ds := by
  rcases e with rfl | rfl
  · cases h with
    | lst h a => exact ⟨_, _, rfl, .inl h, a⟩
  · cases h with
    | tup h a => exact ⟨_, _, rfl, .inr h, a⟩
theorem len_dp (h : Dp K H (.ref t) d) (e : d = .list ds ∨ d = .tuple ds) : LenV K (.ref t) H ds.length := by
  rcases e with rfl | rfl
  · cases h with
    | lst h a => exact .inl ⟨_, h, (dpAll_len a).symm⟩
  · cases h with
    | tup h a => exact .inr ⟨_, h, (dpAll_len a).symm⟩
theorem Th.parts {m C D W : Nat} (h : Th m C D W d) (e : d = .list ds ∨ d = .tuple ds) : Ths m (C - 3) (D - 1) W ds ∧ ds.length ≤ W ∧ 3 ≤ C ∧ 1 ≤ D := by
  rcases e with rfl | rfl
  · exact h.ofList
  · exact h.ofTuple
end
theorem sm_in {H H' : Hp} {S : List Addr} {x : Addr} {o : HO} (s : Sm S H H') (h : off H S x = some o) : off H' S x = some o := s x o h
end Pot
namespace Pot
open PySem PySem.Spec PyProof.Rows L2
theorem costAll_set_eq : ∀ {ds : List PyData} {i : Nat} {x y : PyData}, ds[i]? = some y → costAll (ds.set i x) + costAll.cost y = costAll ds + costAll.cost x
  | [], _, _, _, h => by simp at h
  | z :: zs, 0, x, y, h => by
    have e : z = y := by simpa using h
    subst e
    show costAll.cost x + 2 + costAll zs + costAll.cost z = costAll.cost z + 2 + costAll zs + costAll.cost x
    omega
  | z :: zs, i + 1, x, y, h => by
    have := costAll_set_eq (ds := zs) (i := i) (x := x) (y := y) (by simpa using h)
    show costAll.cost z + 2 + costAll (zs.set i x) + costAll.cost y = costAll.cost z + 2 + costAll zs + costAll.cost x
    omega
theorem codes_ofString (s : String) : ∀ c ∈ (Str.ofString s).cps.toList, c < 1114112 := by
  intro c hc
  rw [Str.ofString_eq_toList] at hc
  have : c ∈ s.toList.map Char.toNat := by simpa using hc
  obtain ⟨ch, _, rfl⟩ := List.mem_map.mp this
  have v := ch.valid
  have e : ch.toNat = ch.val.toNat := rfl
  rcases v with v | ⟨_, v⟩
  · have : ch.val.toNat < 0xD800 := v
    omega
  · have : ch.val.toNat < 0x110000 := v
    omega
theorem th_text {i : Int} (h : i.natAbs ≤ 2000000) {m : Nat} : Th m 19212 0 0 (.str (toString i)) := by
  have l : (Str.ofString (toString i)).length ≤ 1921 := PyProof.Rows.int_text_len_1921 (log_small' h)
  exact ⟨⟨by omega, codes_ofString _⟩, by show 10 * (Str.ofString (toString i)).length + 2 ≤ 19212; omega, Nat.le_refl _, Nat.le_refl _⟩
end Pot

namespace Pot
open PySem PySem.Spec PyProof.Rows L2
theorem Ths.parts2 {m C E D W a b : Nat} {ds es : List PyData} (h : Ths m C D W ds) (hab : a ≤ b) (k : Ths m E D W es) : Ths m (C + E) D W (ds.take a ++ es ++ ds.drop b) := by
  have mem : ∀ d, d ∈ ds.take a ++ es ++ ds.drop b → d ∈ ds ∨ d ∈ es := fun d hd => by
    rcases List.mem_append.mp hd with z | z
    · rcases List.mem_append.mp z with y | y
      · exact .inl (List.mem_of_mem_take y)
      · exact .inr y
    · exact .inl (List.mem_of_mem_drop z)
  refine ⟨fun d hd => (mem d hd).elim (h.g d) (k.g d), ?_, fun d hd => (mem d hd).elim (h.d d) (k.d d), fun d hd => (mem d hd).elim (h.w d) (k.w d)⟩
  rw [costAll_app, costAll_app]
  have e := costAll_app (ds.take a) (ds.drop a)
  rw [List.take_append_drop] at e
  have e2 : ds.drop b = (ds.drop a).drop (b - a) := by rw [List.drop_drop]; congr 1; omega
  have e3 := costAll_drop (b - a) (ds.drop a)
  rw [← e2] at e3
  have := h.c
  have := k.c
  omega
end Pot

namespace Pot
open PySem PySem.Spec PyProof.Rows L2
theorem nodup_le {α : Type} [BEq α] [LawfulBEq α] : ∀ {ks l : List α}, ks.Nodup → (∀ k ∈ ks, k ∈ l) → ks.length ≤ l.length
  | [], _, _, _ => Nat.zero_le _
  | k :: ks, l, h, s => by
    have hk := s k List.mem_cons_self
    have h2 := (List.nodup_cons.mp h)
    have := nodup_le (ks := ks) (l := l.erase k) h2.2 fun x hx => by
      have ne : x ≠ k := fun e => h2.1 (e ▸ hx)
      exact (List.mem_erase_of_ne ne).mpr (s x (List.mem_cons_of_mem _ hx))
    rw [List.length_erase_of_mem hk] at this
    have : 0 < l.length := List.length_pos_of_mem hk
    simp only [List.length_cons]
    omega
section
variable {X : Cx} {K : PySem.W.Frag}
theorem ko_notIn (h : X.K = K := by rfl) : OpR X (compareOp .NotIn) (rIn K true) := h ▸ op_notIn_seq
/-- set(xs) of ints: how many members it has -/
def rSetLj (K : PySem.W.Frag) (w : World) : List V → Hp → VK → Prop := fun xs H Q => ∃ (a : Addr) (ns : List Int), xs = [V.ref a] ∧ SqL K H a (ns.map V.int) ∧ ns.length ≤ 4000 ∧
  ∀ (p : Addr) (ks : List Int), H p = none → ks.Nodup → (∀ k, k ∈ ks ↔ k ∈ ns) → Q (.ref p) (upd H p (SetO w p (fun k => decide (k ∈ ns)) ks.length))
theorem cr_setLj (hc : X.calm = true) : CallR X (.type "set") (rSetLj X.K X.w) := by
  intro pins s σ H vs us Q I r h
  obtain ⟨a, ns, rfl, hS, hl, q⟩ := h
  rw [Vals.ref1 r]
  obtain ⟨its, rv, pl, hz⟩ := I.list hS
  refine call_set_li ns (I.ok.hd hc) pl.isList (by simpa using Vals.ints rv) (by unfold scanBound; omega) fun s' f => ?_
  obtain ⟨h', tk, c, rfl, R, hcn, k⟩ := f
  have hn : H s.heap.objs.size = none := I.hok.fresh (Nat.le_refl _)
  have J : Inv X pins σ (upd H s.heap.objs.size (SetO X.w s.heap.objs.size (fun k => decide (k ∈ ns)) c)) { s with heap := h', toks := tk } := I.laid (t' := tk) k (Nat.le_refl _) (setO_new R)
  obtain ⟨o, es, ep, t, _, _, _, _, nod, mem, _, _, size, _⟩ := R
  have q2 := q s.heap.objs.size (es.toList.map keyOf) hn nod fun k => by rw [← mem k, decide_eq_true_eq]
  rw [List.length_map, Array.length_toList, size] at q2
  exact ⟨.ref s.heap.objs.size, _, J, rfl, q2⟩
theorem kc_setLj {w : World} (hc : X.calm = true := by rfl) (h : X.K = K := by rfl) (hw : X.w = w := by rfl) : CallR X (.type "set") (rSetLj K w) := by subst h; subst hw; exact cr_setLj hc
end
end Pot

namespace Pot
open PySem PySem.Spec PyProof.Rows L2
/-! ### kinds of data -/
def tyD : PyData → String
  | .none => "NoneType"
  | .bool _ => "bool"
  | .int _ => "int"
  | .str _ => "str"
  | .list _ => "list"
  | .tuple _ => "tuple"
  | .dict _ => "dict"
def isIntD : PyData → Bool
  | .int _ => true
  | .bool _ => true
  | _ => false
def isBoolD : PyData → Bool
  | .bool _ => true
  | _ => false
def isStrD : PyData → Bool
  | .str _ => true
  | _ => false
def isListD : PyData → Bool
  | .list _ => true
  | _ => false
def isTupD : PyData → Bool
  | .tuple _ => true
  | _ => false
section
variable {K : PySem.W.Frag} {H : Hp} {x : V} {d : PyData} {Q : VK}
theorem tyx_dp (h : Dp K H x d) : TyX K H x (.type (tyD d)) := by
  cases h with
  | non => exact .base .non
  | bl b => exact .base (.bl b)
  | int i => exact .base (.int i)
  | str z => exact .base (.str z)
  | lst h _ => exact tyx_list h
  | tup h _ => exact tyx_tup h
theorem kit_int (h : Dp K H x d) : PySem.W.kitOne K (.type (tyD d)) (.type "int") = some (isIntD d) := by
  cases h with
  | non => exact kit_ty (show kitB "NoneType" "int" = some false by decide +kernel)
  | bl _ => exact kit_ty (show kitB "bool" "int" = some true by decide +kernel)
  | int _ => exact kit_ty (show kitB "int" "int" = some true by decide +kernel)
  | str _ => exact kit_ty (show kitB "str" "int" = some false by decide +kernel)
  | lst _ _ => exact kit_ty (show kitB "list" "int" = some false by decide +kernel)
  | tup _ _ => exact kit_ty (show kitB "tuple" "int" = some false by decide +kernel)
theorem kit_bool (h : Dp K H x d) : PySem.W.kitOne K (.type (tyD d)) (.type "bool") = some (isBoolD d) := by
  cases h with
  | non => exact kit_ty (show kitB "NoneType" "bool" = some false by decide +kernel)
  | bl _ => exact kit_ty (show kitB "bool" "bool" = some true by decide +kernel)
  | int _ => exact kit_ty (show kitB "int" "bool" = some false by decide +kernel)
  | str _ => exact kit_ty (show kitB "str" "bool" = some false by decide +kernel)
  | lst _ _ => exact kit_ty (show kitB "list" "bool" = some false by decide +kernel)
  | tup _ _ => exact kit_ty (show kitB "tuple" "bool" = some false by decide +kernel)
theorem kit_str (h : Dp K H x d) : PySem.W.kitOne K (.type (tyD d)) (.type "str") = some (isStrD d) := by
  cases h with
  | non => exact kit_ty (show kitB "NoneType" "str" = some false by decide +kernel)
  | bl _ => exact kit_ty (show kitB "bool" "str" = some false by decide +kernel)
  | int _ => exact kit_ty (show kitB "int" "str" = some false by decide +kernel)
  | str _ => exact kit_ty (show kitB "str" "str" = some true by decide +kernel)
  | lst _ _ => exact kit_ty (show kitB "list" "str" = some false by decide +kernel)
  | tup _ _ => exact kit_ty (show kitB "tuple" "str" = some false by decide +kernel)
theorem kit_list (h : Dp K H x d) : PySem.W.kitOne K (.type (tyD d)) (.type "list") = some (isListD d) := by
  cases h with
  | non => exact kit_ty (show kitB "NoneType" "list" = some false by decide +kernel)
  | bl _ => exact kit_ty (show kitB "bool" "list" = some false by decide +kernel)
  | int _ => exact kit_ty (show kitB "int" "list" = some false by decide +kernel)
  | str _ => exact kit_ty (show kitB "str" "list" = some false by decide +kernel)
  | lst _ _ => exact kit_ty (show kitB "list" "list" = some true by decide +kernel)
  | tup _ _ => exact kit_ty (show kitB "tuple" "list" = some false by decide +kernel)
theorem kit_tup (h : Dp K H x d) : PySem.W.kitOne K (.type (tyD d)) (.type "tuple") = some (isTupD d) := by
  cases h with
  | non => exact kit_ty (show kitB "NoneType" "tuple" = some false by decide +kernel)
  | bl _ => exact kit_ty (show kitB "bool" "tuple" = some false by decide +kernel)
  | int _ => exact kit_ty (show kitB "int" "tuple" = some false by decide +kernel)
  | str _ => exact kit_ty (show kitB "str" "tuple" = some false by decide +kernel)
  | lst _ _ => exact kit_ty (show kitB "list" "tuple" = some false by decide +kernel)
  | tup _ _ => exact kit_ty (show kitB "tuple" "tuple" = some true by decide +kernel)
theorem kit_lt (h : Dp K H x d) : PySem.W.kitAny K (.type (tyD d)) [.type "list", .type "tuple"] = some (isListD d || isTupD d) := by
  cases h <;> rfl
end
/-! ### numbers within bounds -/
def numD (lo hi : Int) : PyData → Bool
  | .int i => decide (lo ≤ i) && decide (i ≤ hi)
  | _ => false
def toI : PyData → Int
  | .int i => i
  | _ => 0
theorem numD_int {lo hi : Int} : ∀ {d : PyData}, numD lo hi d = true → d = .int (toI d) ∧ lo ≤ toI d ∧ toI d ≤ hi
  | .int i, h => by
    obtain ⟨h1, h2⟩ := Bool.and_eq_true_iff.mp (show (decide (lo ≤ i) && decide (i ≤ hi)) = true from h)
    exact ⟨rfl, of_decide_eq_true h1, of_decide_eq_true h2⟩
/-- rising -/
def risI : List Int → Bool
  | a :: b :: r => decide (a < b) && risI (b :: r)
  | _ => true
def risD (lo hi : Int) : PyData → Bool
  | .list ds => ds.all (numD lo hi) && risI (ds.map toI)
  | _ => false
theorem risI_pair : ∀ {ns : List Int}, risI ns = true ↔ ns.Pairwise (· < ·)
  | [] => by simp [risI]
  | [a] => by simp [risI]
  | a :: b :: r => by
    have ih := risI_pair (ns := b :: r)
    show (decide (a < b) && risI (b :: r)) = true ↔ _
    rw [Bool.and_eq_true_iff, decide_eq_true_eq, ih]
    constructor
    · rintro ⟨h1, h2⟩
      refine List.pairwise_cons.mpr ⟨fun x hx => ?_, h2⟩
      rcases List.mem_cons.mp hx with e | e
      · rw [e]; exact h1
      · exact Int.lt_trans h1 ((List.pairwise_cons.mp h2).1 x e)
    · intro h
      obtain ⟨h1, h2⟩ := List.pairwise_cons.mp h
      exact ⟨h1 b List.mem_cons_self, h2⟩
theorem nums_of {lo hi : Int} {ds : List PyData} (h : ds.all (numD lo hi) = true) : ds = (ds.map toI).map PyData.int ∧ ∀ k ∈ ds.map toI, lo ≤ k ∧ k ≤ hi := by
  rw [List.all_eq_true] at h
  constructor
  · rw [List.map_map]
    conv => lhs; rw [← List.map_id ds]
    exact List.map_congr_left fun d hd => (numD_int (h d hd)).1
  · intro k hk
    obtain ⟨d, hd, rfl⟩ := List.mem_map.mp hk
    exact (numD_int (h d hd)).2
section
variable {K : PySem.W.Frag} {H : Hp}
theorem dp_intsV : ∀ {xs : List V} {ns : List Int}, DpAll K H xs (ns.map PyData.int) → xs = ns.map V.int
  | [], [], _ => rfl
  | [], _ :: _, h => by cases h
  | _ :: _, [], h => by cases h
  | x :: xs, n :: ns, h => by
    cases h with
    | cons h t => cases h; rw [dp_intsV t]; rfl
end
/-- of a row that rises just the same: a row in which all stand in order, none twice -/
theorem sorted_uniq : ∀ {xs ys : List Int}, xs.Pairwise (· < ·) → ys.Pairwise (· < ·) → (∀ k, k ∈ xs ↔ k ∈ ys) → xs = ys
  | [], [], _, _, _ => rfl
  | [], y :: ys, _, _, h => by have := (h y).mpr List.mem_cons_self; simp at this
  | x :: xs, [], _, _, h => by have := (h x).mp List.mem_cons_self; simp at this
  | x :: xs, y :: ys, h1, h2, h => by
    rw [List.pairwise_cons] at h1 h2
    have e : x = y := by
      rcases List.mem_cons.mp ((h x).mp List.mem_cons_self) with e | e
      · exact e
      · rcases List.mem_cons.mp ((h y).mpr List.mem_cons_self) with e2 | e2
        · exact e2.symm
        · have := h2.1 x e; have := h1.1 y e2; omega
    subst e
    have : xs = ys := sorted_uniq h1.2 h2.2 fun k => by
      constructor
      · intro hk
        rcases List.mem_cons.mp ((h k).mp (List.mem_cons_of_mem _ hk)) with e | e
        · have := h1.1 k hk; omega
        · exact e
      · intro hk
        rcases List.mem_cons.mp ((h k).mpr (List.mem_cons_of_mem _ hk)) with e | e
        · have := h2.1 k hk; omega
        · exact e
    rw [this]
theorem eqv_ints : ∀ xs ys : List Int, PyData.eqv (.list (xs.map PyData.int)) (.list (ys.map PyData.int)) = decide (xs = ys)
  | [], [] => rfl
  | [], _ :: _ => rfl
  | _ :: _, [] => rfl
  | x :: xs, y :: ys => by
    have ih := eqv_ints xs ys
    show (PyData.eqv (.int x) (.int y) && PyData.eqvAll (xs.map PyData.int) (ys.map PyData.int)) = _
    rw [show PyData.eqvAll (xs.map PyData.int) (ys.map PyData.int) = decide (xs = ys) from ih]
    show ((x == y) && _) = _
    by_cases h : x = y
    · subst h; simp
    · simp [h]
/-- thing == sorted(set(thing)): just where it rises -/
theorem eq_sorted {ns zs : List Int} (h : zs.Pairwise (· < ·)) (m : ∀ k, k ∈ zs ↔ k ∈ ns) : decide (ns = zs) = risI ns := by
  by_cases e : ns = zs
  · rw [decide_eq_true e, e]; exact (risI_pair.mpr h).symm
  · rw [decide_eq_false e]
    cases hr : risI ns with
    | false => rfl
    | true => exact absurd (sorted_uniq (risI_pair.mp hr) h fun k => (m k).symm) e
theorem nodup_60 {ks : List Int} (h : ks.Nodup) (b : ∀ k ∈ ks, 0 ≤ k ∧ k ≤ 60) : ks.length < 64 := by
  have := nodup_le (l := (List.range 61).map fun (i : Nat) => (i : Int)) h fun k hk => by
    obtain ⟨h0, h1⟩ := b k hk
    exact List.mem_map.mpr ⟨k.toNat, List.mem_range.mpr (by omega), by omega⟩
  rw [List.length_map, List.length_range] at this
  omega
end Pot
namespace Pot
open PySem PySem.Spec PyProof.Rows L2
/-! ### a comprehension that changes nothing that stood: out i is what is told up to turn i -/
def PvL (H1 : Hp) (D : Addr) (out : Nat → List V) (i : Nat) (H2 : Hp) : Prop := Same H1 H2 ∧ H2 D = some (.lst (out i))
section
variable {H1 H2 H3 : Hp} {D : Addr} {out : Nat → List V} {i : Nat} {y : V}
theorem pv_start (nD : H1 D = none) (e : out 0 = []) : PvL H1 D out 0 (upd H1 D (.lst [])) := ⟨same_upd nD, by rw [e]; exact upd_same⟩
theorem pv_put (nD : H1 D = none) (p : PvL H1 D out i H2) (s : Same H2 H3) (e : out (i + 1) = out i ++ [y]) (l : (out i).length < sizeLine) : ∃ acc, H3 D = some (.lst acc) ∧ acc.length < sizeLine ∧ PvL H1 D out (i + 1) (upd H3 D (.lst (acc ++ [y]))) :=
  ⟨out i, s _ _ p.2, l, same_put (p.1.trans s) nD, by rw [e]; exact upd_same⟩
theorem pv_skip (p : PvL H1 D out i H2) (s : Same H2 H3) (e : out (i + 1) = out i) : PvL H1 D out (i + 1) H3 := ⟨p.1.trans s, by rw [e]; exact s _ _ p.2⟩
end
theorem take_map {α : Type} (f : α → V) {l : List α} {i : Nat} {x : α} (h : l[i]? = some x) : (l.take (i + 1)).map f = (l.take i).map f ++ [f x] := by
  rw [List.take_add_one, h, List.map_append]; rfl
theorem take_len_lt {α : Type} {f : α → V} {l : List α} {i : Nat} (h : i < 100000) : ((l.take i).map f).length < sizeLine := by
  rw [List.length_map, List.length_take, sizeLine_eq]; omega
theorem take_len_le {α : Type} {f : α → V} {l : List α} {i : Nat} (h : l.length < 100000) : ((l.take i).map f).length < sizeLine := by
  rw [List.length_map, List.length_take, sizeLine_eq]; omega
/-- each below the next -/
def rb : List Int → List Bool
  | a :: b :: r => decide (a < b) :: rb (b :: r)
  | _ => []
theorem rb_all : ∀ ns : List Int, (rb ns).all id = risI ns
  | [] => rfl
  | [_] => rfl
  | a :: b :: r => by show (decide (a < b) && (rb (b :: r)).all id) = _; rw [rb_all (b :: r)]; rfl
theorem rb_len : ∀ ns : List Int, (rb ns).length = ns.length - 1
  | [] => rfl
  | [_] => rfl
  | a :: b :: r => by show (rb (b :: r)).length + 1 = _; rw [rb_len (b :: r)]; simp
theorem rb_at : ∀ {ns : List Int} {i : Nat} {x y : Int}, ns[i]? = some x → ns[i + 1]? = some y → (rb ns)[i]? = some (decide (x < y))
  | [], _, _, _, h, _ => by simp at h
  | [_], i, _, _, _, h => by simp at h
  | a :: b :: r, 0, x, y, h, k => by
    have e1 : a = x := by simpa using h
    have e2 : b = y := by simpa using k
    subst e1 e2; rfl
  | a :: b :: r, i + 1, x, y, h, k => rb_at (ns := b :: r) (i := i) (by simpa using h) (by simpa using k)
/-- what is told of each of some data -/
theorem all_map {ds : List PyData} {f : PyData → Bool} : (ds.map f).all id = ds.all f := by
  rw [List.all_map]; rfl
end Pot
namespace Pot
open PySem PySem.Spec PyProof.Rows L2
theorem pv_end {H1 H2 : Hp} {D : Addr} {out : Nat → List V} {n : Nat} {zs : List V} (p : PvL H1 D out n H2) (e : out n = zs) : Same H1 H2 ∧ H2 D = some (.lst zs) := ⟨p.1, by rw [← e]; exact p.2⟩
theorem take_all {α : Type} {f : α → V} {l : List α} {n : Nat} (h : l.length ≤ n) : (l.take n).map f = l.map f := by rw [List.take_of_length_le h]
end Pot

namespace Pot
open PySem PySem.Spec PyProof.Rows L2
/-! ### palettes as data -/
abbrev Col := Str × Int × Int × Int
abbrev Wsh := Str × Str × Option Int
def colD (c : Col) : PyData := .tuple [.str c.1, .int c.2.1, .int c.2.2.1, .int c.2.2.2]
def optD : Option Int → PyData
  | none => .none
  | some i => .int i
def washD (r : Wsh) : PyData := .tuple [.str r.1, .str r.2.1, optD r.2.2]
def palD (cs : List Col) (ws : List Wsh) : PyData := .tuple [.tuple (cs.map colD), .tuple (ws.map washD)]
def optV : Option Int → V
  | none => .non
  | some i => .int i
def namV : Option Str → V
  | none => .non
  | some z => .str z
/-- the washing between two: the first row that tells -/
def washF (ws : List Wsh) (a : Option Str) (b : Str) : Option Int := match ws with
  | [] => some 0
  | r :: ws => if some r.1 = a ∧ r.2.1 = b then r.2.2 else washF ws a b
/-- the washing of a row -/
def sumF (ws : List Wsh) : Option Str → List Str → Int → Option Int
  | _, [], h => some h
  | a, b :: r, h => match washF ws a b with
    | none => none
    | some k => sumF ws (some b) r (h + k)
section
variable {K : PySem.W.Frag} {H : Hp}
theorem dp_tup {v : V} {ds : List PyData} (h : Dp K H v (.tuple ds)) : ∃ a xs, v = .ref a ∧ SqT K H a xs ∧ DpAll K H xs ds := by
  cases h with
  | tup h a => exact ⟨_, _, rfl, h, a⟩
theorem dp_lst {v : V} {ds : List PyData} (h : Dp K H v (.list ds)) : ∃ a xs, v = .ref a ∧ SqL K H a xs ∧ DpAll K H xs ds := by
  cases h with
  | lst h a => exact ⟨_, _, rfl, h, a⟩
theorem dp_str {v : V} {z : Str} (h : Dp K H v (.str z)) : v = .str z := by cases h; rfl
theorem dp_int {v : V} {z : Int} (h : Dp K H v (.int z)) : v = .int z := by cases h; rfl
theorem dp_opt {v : V} : ∀ {z : Option Int}, Dp K H v (optD z) → v = optV z
  | none, h => by cases h; rfl
  | some i, h => by cases h; rfl
theorem opt_dp : ∀ (z : Option Int), Dp K H (optV z) (optD z)
  | none => .non
  | some i => .int i
theorem dp_two {xs : List V} {d e : PyData} (h : DpAll K H xs [d, e]) : ∃ x y, xs = [x, y] ∧ Dp K H x d ∧ Dp K H y e := by
  cases h with
  | cons h1 t => cases t with
    | cons h2 t => cases t; exact ⟨_, _, rfl, h1, h2⟩
theorem dp_three {xs : List V} {d e f : PyData} (h : DpAll K H xs [d, e, f]) : ∃ x y z, xs = [x, y, z] ∧ Dp K H x d ∧ Dp K H y e ∧ Dp K H z f := by
  cases h with
  | cons h1 t => obtain ⟨y, z, rfl, h2, h3⟩ := dp_two t; exact ⟨_, _, _, rfl, h1, h2, h3⟩
theorem dp_four {xs : List V} {d e f g : PyData} (h : DpAll K H xs [d, e, f, g]) : ∃ x y z u, xs = [x, y, z, u] ∧ Dp K H x d ∧ Dp K H y e ∧ Dp K H z f ∧ Dp K H u g := by
  cases h with
  | cons h1 t => obtain ⟨y, z, u, rfl, h2, h3, h4⟩ := dp_three t; exact ⟨_, _, _, _, rfl, h1, h2, h3, h4⟩
/-- a colour's tuple -/
theorem col_dp {v : V} {c : Col} (h : Dp K H v (colD c)) : ∃ a, v = .ref a ∧ SqT K H a [.str c.1, .int c.2.1, .int c.2.2.1, .int c.2.2.2] := by
  obtain ⟨a, xs, rfl, hs, ha⟩ := dp_tup h
  obtain ⟨x, y, z, u, rfl, h1, h2, h3, h4⟩ := dp_four ha
  rw [dp_str h1, dp_int h2, dp_int h3, dp_int h4] at hs
  exact ⟨a, rfl, hs⟩
theorem wash_dp {v : V} {r : Wsh} (h : Dp K H v (washD r)) : ∃ a, v = .ref a ∧ SqT K H a [.str r.1, .str r.2.1, optV r.2.2] := by
  obtain ⟨a, xs, rfl, hs, ha⟩ := dp_tup h
  obtain ⟨x, y, z, rfl, h1, h2, h3⟩ := dp_three ha
  rw [dp_str h1, dp_str h2, dp_opt h3] at hs
  exact ⟨a, rfl, hs⟩
/-- a palette in the heap -/
theorem pal_dp {v : V} {cs : List Col} {ws : List Wsh} (h : Dp K H v (palD cs ws)) :
    ∃ p c w xs ys, v = .ref p ∧ SqT K H p [.ref c, .ref w] ∧ SqT K H c xs ∧ DpAll K H xs (cs.map colD) ∧ SqT K H w ys ∧ DpAll K H ys (ws.map washD) := by
  obtain ⟨p, zs, rfl, hp, hz⟩ := dp_tup h
  obtain ⟨x, y, rfl, h1, h2⟩ := dp_two hz
  obtain ⟨c, xs, rfl, hc, hx⟩ := dp_tup h1
  obtain ⟨w, ys, rfl, hw, hy⟩ := dp_tup h2
  exact ⟨p, c, w, xs, ys, rfl, hp, hc, hx, hw, hy⟩
theorem dpAll_map_at {α : Type} {f : α → PyData} {xs : List V} {l : List α} {i : Nat} {x : V} (h : DpAll K H xs (l.map f)) (e : xs[i]? = some x) : ∃ y, l[i]? = some y ∧ Dp K H x (f y) := by
  obtain ⟨d, g, p⟩ := dpAll_at h e
  rw [List.getElem?_map] at g
  obtain ⟨y, hy, rfl⟩ := Option.map_eq_some_iff.mp g
  exact ⟨y, hy, p⟩
theorem dpAll_map_len {α : Type} {f : α → PyData} {xs : List V} {l : List α} (h : DpAll K H xs (l.map f)) : xs.length = l.length := by
  rw [dpAll_len h, List.length_map]
end
theorem decS {a b : Str} : decide (V.str a = V.str b) = decide (a = b) := by
  by_cases h : a = b
  · subst h; rw [decide_eq_true rfl, decide_eq_true rfl]
  · rw [decide_eq_false h, decide_eq_false fun z => h (V.str.inj z)]
/-- behind rows that don't tell -/
theorem washF_skip {a : Option Str} {b : Str} : ∀ {ws : List Wsh} {i : Nat}, (∀ j r, j < i → ws[j]? = some r → ¬ (some r.1 = a ∧ r.2.1 = b)) → washF ws a b = washF (ws.drop i) a b
  | ws, 0, _ => rfl
  | [], i + 1, _ => rfl
  | r :: ws, i + 1, h => by
    show (if some r.1 = a ∧ r.2.1 = b then r.2.2 else washF ws a b) = washF (ws.drop i) a b
    rw [if_neg (h 0 r (Nat.succ_pos _) rfl)]
    exact washF_skip (a := a) (b := b) (ws := ws) (i := i) fun j q hj e => h (j + 1) q (Nat.succ_lt_succ hj) e
theorem washF_at {a : Option Str} {b : Str} {ws : List Wsh} {i : Nat} {r : Wsh} (h : ∀ j r, j < i → ws[j]? = some r → ¬ (some r.1 = a ∧ r.2.1 = b)) (e : ws[i]? = some r) (hr : some r.1 = a ∧ r.2.1 = b) : washF ws a b = r.2.2 := by
  rw [washF_skip h, List.drop_eq_getElem_cons (List.getElem?_eq_some_iff.mp e).1, (List.getElem?_eq_some_iff.mp e).2]
  unfold washF
  rw [if_pos hr]
theorem washF_none {a : Option Str} {b : Str} {ws : List Wsh} (h : ∀ j r, j < ws.length → ws[j]? = some r → ¬ (some r.1 = a ∧ r.2.1 = b)) : washF ws a b = some 0 := by
  rw [washF_skip h, List.drop_length]
  rfl
/-! ### data without lists stays while the law draws -/
def noLAll : List PyData → Prop
  | [] => True
  | x :: xs => noL x ∧ noLAll xs
where noL : PyData → Prop
  | .list _ => False
  | .dict _ => False
  | .tuple xs => noLAll xs
  | _ => True
section
variable {K : PySem.W.Frag}
theorem kp_tup {d c : Addr} {H H' : Hp} {n : Nat} {a : Addr} {xs : List V} (st : StAt H d c n) (k : Kp d c H H') (h : SqT K H a xs) : SqT K H' a xs := by
  obtain ⟨_, ys, t, h1, h2, _⟩ := st
  have go : ∀ o, (H a = some (.tup xs) ∨ H a = some (.frz o (.tup xs))) → a ≠ d ∧ a ≠ c := fun o e => by
    constructor
    · intro z; subst z; rw [h1] at e; rcases e with e | e <;> cases e
    · intro z; subst z; rw [h2] at e; rcases e with e | e <;> cases e
  rcases h with (h | ⟨o, h⟩) | h
  · have g := go ⟨.none, none, .fields #[], #[]⟩ (.inl h); exact .inl (.inl (k _ _ g.1 g.2 h))
  · have g := go o (.inr h); exact .inl (.inr ⟨o, k _ _ g.1 g.2 h⟩)
  · exact .inr h
mutual
theorem dp_kp {d c : Addr} {H H' : Hp} {n : Nat} (st : StAt H d c n) (k : Kp d c H H') : ∀ {v : V} {e : PyData}, noLAll.noL e → Dp K H v e → Dp K H' v e
  | _, _, _, .non => .non
  | _, _, _, .bl b => .bl b
  | _, _, _, .int i => .int i
  | _, _, _, .str x => .str x
  | _, _, h, .lst _ _ => h.elim
  | _, _, h, .tup s a => .tup (kp_tup st k s) (dpAll_kp st k h a)
theorem dpAll_kp {d c : Addr} {H H' : Hp} {n : Nat} (st : StAt H d c n) (k : Kp d c H H') : ∀ {vs : List V} {es : List PyData}, noLAll es → DpAll K H vs es → DpAll K H' vs es
  | _, _, _, .nil => .nil
  | _, _, h, .cons x t => .cons (dp_kp st k h.1 x) (dpAll_kp st k h.2 t)
end
mutual
theorem dp_go {H H' : Hp} (go : ∀ a us, SqT K H a us → SqT K H' a us) : ∀ {v : V} {e : PyData}, noLAll.noL e → Dp K H v e → Dp K H' v e
  | _, _, _, .non => .non
  | _, _, _, .bl b => .bl b
  | _, _, _, .int i => .int i
  | _, _, _, .str x => .str x
  | _, _, h, .lst _ _ => h.elim
  | _, _, h, .tup s a => .tup (go _ _ s) (dpAll_go go h a)
theorem dpAll_go {H H' : Hp} (go : ∀ a us, SqT K H a us → SqT K H' a us) : ∀ {vs : List V} {es : List PyData}, noLAll es → DpAll K H vs es → DpAll K H' vs es
  | _, _, _, .nil => .nil
  | _, _, h, .cons x t => .cons (dp_go go h.1 x) (dpAll_go go h.2 t)
end
theorem noL_map {α : Type} {f : α → PyData} (h : ∀ x, noLAll.noL (f x)) : ∀ l : List α, noLAll (l.map f)
  | [] => trivial
  | x :: r => ⟨h x, noL_map h r⟩
theorem noL_col (c : Col) : noLAll.noL (colD c) := ⟨trivial, trivial, trivial, trivial, trivial⟩
theorem noL_wash (r : Wsh) : noLAll.noL (washD r) := ⟨trivial, trivial, by cases r.2.2 <;> trivial, trivial⟩
theorem noL_pal (cs : List Col) (ws : List Wsh) : noLAll.noL (palD cs ws) := ⟨noL_map noL_col cs, noL_map noL_wash ws, trivial⟩
theorem dpAll_app {H : Hp} : ∀ {xs ys : List V} {ds es : List PyData}, DpAll K H xs ds → DpAll K H ys es → DpAll K H (xs ++ ys) (ds ++ es)
  | _, _, _, _, .nil, h => h
  | _, _, _, _, .cons h t, h2 => .cons h (dpAll_app t h2)
end
/-! ### how long a palette's text may be -/
structure PalOk (cs : List Col) (ws : List Wsh) : Prop where
  nc : cs.length ≤ 20
  nw : ws.length ≤ 60
  cn : ∀ c ∈ cs, c.1.length ≤ 9 ∧ (∀ x ∈ c.1.cps.toList, x < 1114112) ∧ c.2.1.natAbs < 10000 ∧ c.2.2.1.natAbs < 10000 ∧ c.2.2.2.natAbs < 10000
  wn : ∀ r ∈ ws, (r.1.length ≤ 9 ∧ ∀ x ∈ r.1.cps.toList, x < 1114112) ∧ (r.2.1.length ≤ 9 ∧ ∀ x ∈ r.2.1.cps.toList, x < 1114112) ∧ ∀ i, r.2.2 = some i → i.natAbs < 10000
theorem PalOk.addC {cs : List Col} {ws : List Wsh} {c : Col} (h : PalOk cs ws) (n : cs.length < 20) (ok : c.1.length ≤ 9 ∧ (∀ x ∈ c.1.cps.toList, x < 1114112) ∧ c.2.1.natAbs < 10000 ∧ c.2.2.1.natAbs < 10000 ∧ c.2.2.2.natAbs < 10000) : PalOk (cs ++ [c]) ws :=
  ⟨by rw [List.length_append]; exact n, h.nw, fun x hx => (List.mem_append.mp hx).elim (h.cn x) fun z => by rw [List.mem_singleton.mp z]; exact ok, h.wn⟩
theorem PalOk.addW {cs : List Col} {ws : List Wsh} {r : Wsh} (h : PalOk cs ws) (n : ws.length < 60) (ok : (r.1.length ≤ 9 ∧ ∀ x ∈ r.1.cps.toList, x < 1114112) ∧ (r.2.1.length ≤ 9 ∧ ∀ x ∈ r.2.1.cps.toList, x < 1114112) ∧ ∀ i, r.2.2 = some i → i.natAbs < 10000) : PalOk cs (ws ++ [r]) :=
  ⟨h.nc, by rw [List.length_append]; exact n, h.cn, fun x hx => (List.mem_append.mp hx).elim (h.wn x) fun z => by rw [List.mem_singleton.mp z]; exact ok⟩
theorem log_small {i : Int} (h : i.natAbs < 10000) : i.natAbs.log2 < 1920 := by
  by_cases z : i.natAbs = 0
  · rw [z]; decide
  · have := (Nat.log2_lt z).mpr (show i.natAbs < 2 ^ 14 from Nat.lt_of_lt_of_le h (by decide))
    omega
theorem fineAll_map {α : Type} {f : α → PyData} : ∀ {l : List α}, (∀ x ∈ l, fineAll.fine (f x)) → fineAll (l.map f)
  | [], _ => trivial
  | x :: r, h => ⟨h x List.mem_cons_self, fineAll_map fun y hy => h y (List.mem_cons_of_mem _ hy)⟩
theorem costAll_map {α : Type} {f : α → PyData} {b : Nat} : ∀ {l : List α}, (∀ x ∈ l, costAll.cost (f x) ≤ b) → costAll (l.map f) ≤ l.length * (b + 2)
  | [], _ => Nat.zero_le _
  | x :: r, h => by
    have h1 := h x List.mem_cons_self
    have h2 := costAll_map (l := r) fun y hy => h y (List.mem_cons_of_mem _ hy)
    show costAll.cost (f x) + 2 + costAll (r.map f) ≤ (r.length + 1) * (b + 2)
    rw [Nat.succ_mul]
    omega
theorem depthAll_map {α : Type} {f : α → PyData} {b : Nat} : ∀ {l : List α}, (∀ x ∈ l, (f x).depth ≤ b) → PyData.depthAll (l.map f) ≤ b
  | [], _ => Nat.zero_le _
  | x :: r, h => by
    show max (f x).depth (PyData.depthAll (r.map f)) ≤ b
    exact Nat.max_le.mpr ⟨h x List.mem_cons_self, depthAll_map fun y hy => h y (List.mem_cons_of_mem _ hy)⟩
theorem fine_col {c : Col} (h : c.1.length ≤ 9 ∧ (∀ x ∈ c.1.cps.toList, x < 1114112) ∧ c.2.1.natAbs < 10000 ∧ c.2.2.1.natAbs < 10000 ∧ c.2.2.2.natAbs < 10000) : fineAll.fine (colD c) :=
  ⟨fun x hx => Nat.lt_trans (h.2.1 x hx) (by decide), log_small h.2.2.1, log_small h.2.2.2.1, log_small h.2.2.2.2, trivial⟩
theorem fine_opt {o : Option Int} (h : ∀ i, o = some i → i.natAbs < 10000) : fineAll.fine (optD o) := by
  cases o with
  | none => trivial
  | some i => exact log_small (h i rfl)
theorem pal_fine {cs : List Col} {ws : List Wsh} (h : PalOk cs ws) : fineAll.fine (palD cs ws) :=
  ⟨fineAll_map fun c hc => fine_col (h.cn c hc), fineAll_map fun r hr => ⟨fun x hx => Nat.lt_trans ((h.wn r hr).1.2 x hx) (by decide), fun x hx => Nat.lt_trans ((h.wn r hr).2.1.2 x hx) (by decide), fine_opt (h.wn r hr).2.2, trivial⟩, trivial⟩
theorem cost_opt (o : Option Int) : costAll.cost (optD o) ≤ 1921 := by
  cases o with
  | none => decide
  | some i => exact Nat.le_refl _
theorem pal_cost {cs : List Col} {ws : List Wsh} (h : PalOk cs ws) : costAll.cost (palD cs ws) ≤ 1000000 := by
  have h1 : costAll (cs.map colD) ≤ cs.length * (10000 + 2) := costAll_map fun c hc => by
    have := (h.cn c hc).1
    show (10 * c.1.length + 2) + 2 + (1921 + 2 + (1921 + 2 + (1921 + 2 + 0))) + 3 ≤ 10000
    omega
  have h2 : costAll (ws.map washD) ≤ ws.length * (10000 + 2) := costAll_map fun r hr => by
    have a := (h.wn r hr).1.1
    have b := (h.wn r hr).2.1.1
    have c := cost_opt r.2.2
    show (10 * r.1.length + 2) + 2 + ((10 * r.2.1.length + 2) + 2 + (costAll.cost (optD r.2.2) + 2 + 0)) + 3 ≤ 10000
    omega
  have h3 := Nat.mul_le_mul_right 10002 h.nc
  have h4 := Nat.mul_le_mul_right 10002 h.nw
  show (costAll (cs.map colD) + 3) + 2 + ((costAll (ws.map washD) + 3) + 2 + 0) + 3 ≤ 1000000
  omega
theorem depth_opt (o : Option Int) : (optD o).depth = 0 := by cases o <;> rfl
theorem pal_depth (cs : List Col) (ws : List Wsh) : (palD cs ws).depth ≤ 3 := by
  have h1 : PyData.depthAll (cs.map colD) ≤ 1 := depthAll_map fun c _ => by show 1 ≤ 1; decide
  have h2 : PyData.depthAll (ws.map washD) ≤ 1 := depthAll_map fun r _ => by
    show max 0 (max 0 (max (optD r.2.2).depth 0)) + 1 ≤ 1
    rw [depth_opt]
    decide
  show max (PyData.depthAll (cs.map colD) + 1) (max (PyData.depthAll (ws.map washD) + 1) 0) + 1 ≤ 3
  omega
end Pot

namespace Pot
open PySem PySem.Spec PyProof.Rows L2
/-! ### words of letters -/
/-- at most n letters a to z -/
def Wd (n : Nat) (z : Str) : Prop := z.length ≤ n ∧ ∀ c ∈ z.cps.toList, 97 ≤ c ∧ c ≤ 122
theorem Wd.mono {n m : Nat} {z : Str} (h : Wd n z) (k : n ≤ m) : Wd m z := ⟨Nat.le_trans h.1 k, h.2⟩
theorem wd_add {n m : Nat} {a b : Str} (h : Wd n a) (k : Wd m b) : Wd (n + m) (a ++ b) := by
  refine ⟨by rw [strLen_append]; exact Nat.add_le_add h.1 k.1, fun c hc => ?_⟩
  have e : (a ++ b).cps.toList = a.cps.toList ++ b.cps.toList := by
    show (a.cps ++ b.cps).toList = _
    simp
  rw [e] at hc
  exact (List.mem_append.mp hc).elim (h.2 c) (k.2 c)
def az : List Nat := [97, 98, 99, 100, 101, 102, 103, 104, 105, 106, 107, 108, 109, 110, 111, 112, 113, 114, 115, 116, 117, 118, 119, 120, 121, 122]
theorem az_cps : (Str.ofString "abcdefghijklmnopqrstuvwxyz").cps.toList = az := by decide +kernel
theorem az_at : ∀ k : Nat, k < 26 → atI az ((k : Nat) : Int) = some (97 + k) := by unfold az; decide
theorem az_ix {i : Int} (h0 : 0 ≤ i) (h1 : i < 26) : atI (Str.ofString "abcdefghijklmnopqrstuvwxyz").cps.toList i = some (97 + i.toNat) := by
  rw [az_cps]
  have h := az_at i.toNat (by omega)
  rw [show ((i.toNat : Nat) : Int) = i by omega] at h
  exact h
theorem wd_sign {c : Nat} (h0 : 97 ≤ c) (h1 : c ≤ 122) : Wd 1 ⟨#[c]⟩ := ⟨Nat.le_refl _, fun d hd => by
  have e : d = c := by simpa using hd
  subst e; exact ⟨h0, h1⟩⟩
theorem wd_letter {i : Int} (h0 : 0 ≤ i) (h1 : i < 26) : Wd 1 ⟨#[97 + i.toNat]⟩ := wd_sign (by omega) (by omega)
theorem wd_nil : Wd 0 Str.empty := ⟨Nat.le_refl _, fun c hc => by have : c ∈ ([] : List Nat) := hc; simp at this⟩
theorem wd_join : ∀ {ys : List Str}, (∀ y ∈ ys, Wd 1 y) → Wd ys.length (Str.join Str.empty ys)
  | [], _ => wd_nil
  | [x], h => h x List.mem_cons_self
  | x :: y :: r, h => by
    have ih := wd_join (ys := y :: r) fun z hz => h z (List.mem_cons_of_mem _ hz)
    show Wd _ (x ++ Str.empty ++ Str.join Str.empty (y :: r))
    have h1 := wd_add (wd_add (h x List.mem_cons_self) wd_nil) ih
    exact h1.mono (by simp only [List.length_cons]; omega)
theorem cut_mem {z : Str} {lo hi : Option Int} {c : Nat} (h : c ∈ (cutS z lo hi).cps.toList) : c ∈ z.cps.toList := by
  unfold cutS at h
  have h2 : c ∈ (z.cps.toList.drop (HT.sIx z.length 0 lo)).take (HT.sIx z.length z.length hi - HT.sIx z.length 0 lo) := by simpa using h
  exact List.mem_of_mem_drop (List.mem_of_mem_take h2)
theorem cut_len (z : Str) (lo hi : Option Int) : (cutS z lo hi).length ≤ HT.sIx z.length z.length hi - HT.sIx z.length 0 lo := by
  unfold cutS
  show (List.toArray _).size ≤ _
  rw [List.size_toArray]
  exact List.length_take_le ..
theorem wd_head {n k : Nat} {z : Str} (h : Wd n z) : Wd k (cutS z none (some (k : Int))) := by
  refine ⟨Nat.le_trans (cut_len z none (some (k : Int))) ?_, fun c hc => h.2 c (cut_mem hc)⟩
  rw [HT.sIx_nat]
  omega
theorem wd_tail {n k : Nat} {z : Str} (h : Wd n z) : Wd (z.length - k) (cutS z (some (k : Int)) none) := by
  refine ⟨Nat.le_trans (cut_len z (some (k : Int)) none) ?_, fun c hc => h.2 c (cut_mem hc)⟩
  rw [HT.sIx_nat, HT.sIx_none]
  omega
theorem wd_cut {n : Nat} {z : Str} {lo hi : Option Int} (h : Wd n z) : Wd n (cutS z lo hi) := by
  refine ⟨Nat.le_trans (cut_len z lo hi) ?_, fun c hc => h.2 c (cut_mem hc)⟩
  have := HT.sIx_le z.length z.length (Nat.le_refl _) hi
  have := h.1
  omega
theorem wd_small {n : Nat} {z : Str} (h : Wd n z) (k : n ≤ 1000) : z.length ≤ sizeLine := Nat.le_trans h.1 (Nat.le_trans k (by decide))
theorem wd_codes {n : Nat} {z : Str} (h : Wd n z) : ∀ x ∈ z.cps.toList, x < 1114112 := fun x hx => by have := (h.2 x hx).2; omega
section
variable {K : PySem.W.Frag}
theorem kp_seq {d c l : Addr} {H H' : Hp} {xs : List V} (k : Kp d c H H') (n1 : l ≠ d) (n2 : l ≠ c) (h : SqL K H l xs) : SqL K H' l xs := by
  rcases h with (h | ⟨o, h⟩) | h
  · exact .inl (.inl (k _ _ n1 n2 h))
  · exact .inl (.inr ⟨o, k _ _ n1 n2 h⟩)
  · exact .inr h
end
end Pot

namespace Pot
open PySem PySem.Spec PyProof.Rows L2
/-! ### the drawing state of two objects, told by what stands beside it -/
section
variable {H H' : Hp} {d c : Addr} {n m : Nat} {S : List Addr} {x : Addr} {o : HO}
theorem kp_sm (k : Kp d c H H') : Sm [d, c] H H' := fun x o e => by
  have nm := off_mem e
  rw [off_out nm] at e ⊢
  exact k x o (fun z => nm (by rw [z]; simp)) (fun z => nm (by rw [z]; simp)) e
theorem sm_kp (s : Sm [d, c] H H') : Kp d c H H' := fun x o h1 h2 e => sm_at s (by simp [h1, h2]) e
theorem sm_two (h1 : d ∈ S) (h2 : c ∈ S) (s : Sm [d, c] H H') : Sm S H H' := sm_mono (fun x hx => by
  rcases List.mem_cons.mp hx with e | e
  · rw [e]; exact h1
  · rw [List.mem_singleton.mp e]; exact h2) s
theorem sm2_at (s : Sm [d, c] H H') (h1 : x ≠ d) (h2 : x ≠ c) (h : H x = some o) : H' x = some o := sm_at s (by simp [h1, h2]) h
theorem st_free (s : Sm [d, c] H H') (B : StAt H' d c n) (h : H' x = none) : H x = none := (sm_kp s).free B h
theorem StAt.here (B : StAt H d c n) : H d ≠ none ∧ H c ≠ none := by
  obtain ⟨_, xs, t, h1, h2, _⟩ := B
  constructor
  · intro z; rw [h1] at z; cases z
  · intro z; rw [h2] at z; cases z
theorem Live.st (L : Live S H) (B : StAt H' d c n) (s : Sm [d, c] H H') : Live S H' := fun x hx e => by
  by_cases h1 : x = d
  · rw [h1] at e; exact B.here.1 e
  by_cases h2 : x = c
  · rw [h2] at e; exact B.here.2 e
  cases h : H x with
  | none => exact L x hx h
  | some o => rw [sm2_at s h1 h2 h] at e; cases e
theorem Live.two (B : StAt H d c n) : Live [d, c] H := fun x hx e => by
  rcases List.mem_cons.mp hx with z | z
  · rw [z] at e; exact B.here.1 e
  · rw [List.mem_singleton.mp z] at e; exact B.here.2 e
theorem StAt.nd (B : StAt H d c n) (h : H x = none) : x ≠ d := (B.ne1 h).symm
theorem StAt.nc (B : StAt H d c n) (h : H x = none) : x ≠ c := (B.ne2 h).symm
end
end Pot

namespace Pot
open PySem PySem.Spec PyProof.Rows L2
/-! ### a box of three numbers whose last is at most n -/
def Bq (H : Hp) (b : Addr) (n : Nat) : Prop := ∃ x y z : Int, H b = some (.lst [.int x, .int y, .int z]) ∧ 0 ≤ z ∧ z ≤ n
section
variable {H H' : Hp} {b p : Addr} {n m : Nat} {o : HO}
theorem Bq.bx (B : Bq H b n) : Bx H b := by
  obtain ⟨x, y, z, h, _⟩ := B
  exact ⟨x, y, z, h⟩
theorem Bq.same (B : Bq H b n) (s : Same H H') : Bq H' b n := by
  obtain ⟨x, y, z, h, h2⟩ := B
  exact ⟨x, y, z, s _ _ h, h2⟩
theorem Bq.put (B : Bq H b n) (h : H p = none) : Bq (upd H p o) b n := B.same (same_upd h)
theorem Bq.wr (B : Bq H b n) (h : p ≠ b) : Bq (upd H p o) b n := by
  obtain ⟨x, y, z, e, h2⟩ := B
  exact ⟨x, y, z, by rw [upd_ne h.symm]; exact e, h2⟩
theorem Bq.mono (B : Bq H b n) (h : n ≤ m) : Bq H b m := by
  obtain ⟨x, y, z, e, h1, h2⟩ := B
  exact ⟨x, y, z, e, h1, by omega⟩
theorem Bq.ne (B : Bq H b n) (h : H p = none) : p ≠ b := B.bx.ne h
theorem Live.q (B : Bq H b n) : Live [b] H := Live.one B.bx
end
theorem b01 (k : Bool) : -(2 ^ 64 : Int) < (if k = true then 1 else 0) ∧ (if k = true then 1 else 0) < (2 ^ 64 : Int) := by cases k <;> decide
theorem CDivW.of {i j : Int} (h0 : 0 < j) (h1 : j < 2 ^ 64) : CDivW i j := by
  refine ⟨h0, ?_⟩
  have z : j.natAbs ≠ 0 := by omega
  have := (Nat.log2_lt z).mpr (show j.natAbs < 2 ^ 64 by omega)
  omega
mutual
theorem gd_lay {m : Nat} : ∀ d : PyData, gd m d → d.canLay0 = true
  | .none, _ => rfl
  | .bool _, _ => rfl
  | .int _, _ => rfl
  | .str x, g => by
    show x.cps.all (fun c => decide (c < 0x110000)) = true
    rw [← Array.all_toList, List.all_eq_true]
    exact fun c hc => decide_eq_true (g.2 c hc)
  | .list xs, g => gdAll_lay xs g
  | .tuple xs, g => gdAll_lay xs g
  | .dict _, g => g.elim
theorem gdAll_lay {m : Nat} : ∀ ds : List PyData, gdAll m ds → PyData.canLayAll0 ds = true
  | [], _ => rfl
  | x :: xs, g => by
    show (x.canLay0 && PyData.canLayAll0 xs) = true
    rw [gd_lay x g.1, gdAll_lay xs g.2]; rfl
end
theorem Th.shaped {m C D W : Nat} {d : PyData} (h : Th m C D W d) (hD : D ≤ 64) : SeqAt.shaped d = true := by
  unfold SeqAt.shaped
  rw [gd_lay d h.g, decide_eq_true (Nat.le_trans h.d hD)]; rfl
theorem gd_shaped {m : Nat} {d : PyData} (h : gd m d) (hD : d.depth ≤ 64) : SeqAt.shaped d = true := by
  unfold SeqAt.shaped
  rw [gd_lay d h, decide_eq_true hD]; rfl
end Pot

namespace Pot
open PySem PySem.Spec PyProof.Rows L2
/-- a row that tells of these two -/
def mat (a : Option Str) (b : Str) (r : Wsh) : Bool := decide (some r.1 = a) && decide (r.2.1 = b)
def namD : Option Str → PyData
  | none => .none
  | some z => .str z
theorem washF_filter (a : Option Str) (b : Str) : ∀ ws : List Wsh, washF ws a b = match ws.filter (mat a b) with
    | [] => some 0
    | r :: _ => r.2.2
  | [] => rfl
  | r :: ws => by
    show (if some r.1 = a ∧ r.2.1 = b then r.2.2 else washF ws a b) = _
    rw [List.filter_cons]
    by_cases h : some r.1 = a ∧ r.2.1 = b
    · have e : mat a b r = true := by unfold mat; rw [decide_eq_true h.1, decide_eq_true h.2]; rfl
      rw [if_pos h, if_pos e]
    · have e : ¬ mat a b r = true := by
        unfold mat
        rw [Bool.and_eq_true, decide_eq_true_eq, decide_eq_true_eq]
        exact h
      rw [if_neg h, if_neg e]
      exact washF_filter a b ws
theorem str_beq (x y : Str) : (x == y) = decide (x = y) := by
  by_cases h : x = y
  · subst h; rw [decide_eq_true rfl]; exact beq_self_eq_true x
  · rw [decide_eq_false h]; exact beq_false_of_ne h
theorem eqv_mat (a : Option Str) (b : Str) (r : Wsh) : PyData.eqv (.tuple [.str r.1, .str r.2.1]) (.tuple [namD a, .str b]) = mat a b r := by
  unfold mat
  cases a with
  | none =>
    rw [decide_eq_false (by intro z; cases z)]
    rfl
  | some z =>
    show ((r.1 == z) && ((r.2.1 == b) && true)) = _
    rw [str_beq, str_beq, Bool.and_true]
    congr 1
    by_cases h : r.1 = z
    · rw [decide_eq_true h, decide_eq_true (by rw [h])]
    · rw [decide_eq_false h, decide_eq_false fun q => h (Option.some.inj q)]
section
variable {K : PySem.W.Frag} {H : Hp}
theorem nam_dp : ∀ a : Option Str, Dp K H (namV a) (namD a)
  | none => .non
  | some z => .str z
theorem dpAll_opts : ∀ l : List Wsh, DpAll K H (l.map fun r => optV r.2.2) (l.map fun r => optD r.2.2)
  | [] => .nil
  | r :: l => .cons (opt_dp r.2.2) (dpAll_opts l)
end
/-- signs that there are -/
def Sg (z : Str) : Prop := ∀ x ∈ z.cps.toList, x < 1114112
theorem strOk_len {z : Str} (h : Sg z) : PyData.strOk z = true := by
  unfold PyData.strOk
  rw [Array.all_eq_true_iff_forall_mem]
  intro x hx
  exact decide_eq_true (h x (Array.mem_toList_iff.mpr hx))
theorem shaped_two {x y : Str} (h : Sg x) (k : Sg y) : SeqAt.shaped (.tuple [.str x, .str y]) = true := by
  show (PyData.strOk x && (PyData.strOk y && true)) && decide (max 0 (max 0 0) + 1 ≤ 64) = true
  rw [strOk_len h, strOk_len k]
  rfl
theorem shaped_nam {a : Option Str} {y : Str} (h : ∀ z, a = some z → Sg z) (k : Sg y) : SeqAt.shaped (.tuple [namD a, .str y]) = true := by
  cases a with
  | none =>
    show (true && (PyData.strOk y && true)) && decide (max 0 (max 0 0) + 1 ≤ 64) = true
    rw [strOk_len k]
    rfl
  | some z => exact shaped_two (h z rfl) k
theorem shaped_opts (l : List Wsh) : SeqAt.shaped (.list (l.map fun r => optD r.2.2)) = true := by
  have h1 : ∀ l : List Wsh, PyData.canLayAll0 (l.map fun r => optD r.2.2) = true := by
    intro l
    induction l with
    | nil => rfl
    | cons r l ih =>
      show (PyData.canLay0 (optD r.2.2) && PyData.canLayAll0 (l.map fun r => optD r.2.2)) = true
      rw [ih]
      cases r.2.2 <;> rfl
  have h2 : PyData.depthAll (l.map fun r => optD r.2.2) ≤ 0 := depthAll_map fun r _ => by rw [depth_opt]; exact Nat.le_refl _
  show (PyData.canLayAll0 (l.map fun r => optD r.2.2) && decide (PyData.depthAll (l.map fun r => optD r.2.2) + 1 ≤ 64)) = true
  rw [h1, decide_eq_true (by omega)]
  rfl
end Pot

namespace Pot
open PySem PySem.Spec PyProof.Rows L2
section
variable {X : Cx} {K : PySem.W.Frag}
/-- len of a set of ints -/
def rLenSet (w : World) : List V → Hp → VK → Prop := fun xs H Q => ∃ (a : Addr) (S : Int → Bool) (n : Nat), xs = [V.ref a] ∧ H a = some (SetO w a S n) ∧ Q (.int n) H
theorem cr_lenSet : CallR X (.builtin "len") (rLenSet X.w) := by
  intro pins s σ H vs us Q I r h
  obtain ⟨a, S, n, rfl, ha, q⟩ := h
  rw [Vals.ref1 r]
  obtain ⟨o, es, ep, t, ho, hex, hd, _, _, _, hb, hf, rfl, _⟩ := setO_get I ha
  exact PySem.call_len_set ho hex hd hf (by unfold scanBound at hb; omega) ⟨.int _, H, I.tok _, ⟨_, rfl⟩, q⟩
theorem kc_lenSet {w : World} (hw : X.w = w := by rfl) : CallR X (.builtin "len") (rLenSet w) := by subst hw; exact cr_lenSet
/-- repr of any data -/
def rReprA (K : PySem.W.Frag) : List V → Hp → VK → Prop := fun xs H Q => ∃ (x : V) (d : PyData), xs = [x] ∧ Dp K H x d ∧ fineAll.fine d ∧ d.depth ≤ 60 ∧ costAll.cost d ≤ 16777216 ∧ Q (.str d.shown) H
theorem cr_reprA (gd : X.A.guards = some []) (hu : X.A.units + 64 < cLine) : CallR X (.builtin "repr") (rReprA X.K) := by
  intro pins s σ H vs us Q I r h
  obtain ⟨x, d, rfl, dp, sh, dep, sz, q⟩ := h
  obtain ⟨u, rfl, rx⟩ := vals1 r
  have sz2 := Nat.le_trans (shown_len d sh) (by rw [sizeLine_eq]; exact sz : costAll.cost d ≤ sizeLine)
  cases x with
  | ref a =>
    cases rx
    obtain ⟨as, rd⟩ := Dp.reads I d (.ref a) (.ref a) dp rfl
    refine repr_of_reads' rd (fine_show d sh) (fun z => ?_) gd (by omega) (fun _ _ e => e) (fun h' u tk k => ⟨.str d.shown, H, I.kept k, ⟨u, rfl⟩, q⟩) sz2
    rw [dp_noDict dp] at z
    cases z
  | int i =>
    cases dp
    obtain ⟨t, rfl⟩ := rx
    exact PySem.P.repr_of_int sh ⟨.str _, H, I.tok _, ⟨_, rfl⟩, q⟩
  | str z =>
    cases dp
    obtain ⟨t, rfl⟩ := rx
    exact PySem.P.repr_of_str ⟨.str _, H, I.tok _, ⟨_, rfl⟩, q⟩ sz2
  | bl b =>
    cases dp
    cases rx
    refine PySem.P.repr_of_bool ⟨.str _, H, I.tok _, ⟨_, rfl⟩, ?_⟩
    exact q
  | non =>
    cases dp
    cases rx
    exact PySem.P.repr_of_none ⟨.str _, H, I.tok _, ⟨_, rfl⟩, q⟩
  | _ => cases dp
theorem kc_reprA (gd : X.A.guards = some []) (hu : X.A.units + 64 < cLine) (h : X.K = K := by rfl) : CallR X (.builtin "repr") (rReprA K) := h ▸ cr_reprA gd hu
end
theorem short_of {α : Type} [DecidableEq α] : ∀ {ns : List α}, ¬ ns.Nodup → ∃ ns' : List α, ns'.length < ns.length ∧ ∀ k ∈ ns, k ∈ ns'
  | [], h => (h List.nodup_nil).elim
  | x :: ns, h => by
    by_cases hx : x ∈ ns
    · exact ⟨ns, by simp, fun k hk => by
        rcases List.mem_cons.mp hk with e | e
        · rw [e]; exact hx
        · exact e⟩
    · obtain ⟨ns', l, s⟩ := short_of (ns := ns) fun hn => h (List.nodup_cons.mpr ⟨hx, hn⟩)
      exact ⟨x :: ns', by simp only [List.length_cons]; omega, fun k hk => by
        rcases List.mem_cons.mp hk with e | e
        · rw [e]; exact List.mem_cons_self
        · exact List.mem_cons_of_mem _ (s k e)⟩
theorem set_count {ks ns : List Int} (hk : ks.Nodup) (h : ∀ k, k ∈ ks ↔ k ∈ ns) : ks.length ≤ ns.length ∧ (ks.length = ns.length ↔ ns.Nodup) := by
  have le := nodup_le hk fun k x => (h k).mp x
  refine ⟨le, fun e => ?_, fun hn => Nat.le_antisymm le (nodup_le hn fun k x => (h k).mpr x)⟩
  by_cases hn : ns.Nodup
  · exact hn
  · obtain ⟨ns', l, s⟩ := short_of hn
    have := nodup_le hk fun k x => s k ((h k).mp x)
    omega
end Pot

namespace Pot
open PySem PySem.Spec PyProof.Rows L2
section
variable {X : Cx} {K : PySem.W.Frag}
theorem ko_inD (hu : X.A.units + 65 < cLine) (h : X.K = K := by rfl) : OpR X (compareOp .In) (rInD K) := h ▸ op_inD hu
theorem ko_notInD (hu : X.A.units + 65 < cLine) (h : X.K = K := by rfl) : OpR X (compareOp .NotIn) (rNotInD K) := h ▸ op_notInD hu
/-- a text thrice -/
def rRep3 : R2 := fun x y H Q => ∃ z : Str, x = .str z ∧ y = .int 3 ∧ z.length ≤ 100000 ∧ ∀ z' : Str, z'.length ≤ 3 * z.length → (∀ c ∈ z'.cps.toList, c ∈ z.cps.toList) → Q (.str z') H
theorem mul3_len (z : Str) : (Txt.mul z 3).length ≤ 3 * z.length ∧ ∀ c ∈ (Txt.mul z 3).cps.toList, c ∈ z.cps.toList := by
  unfold Txt.mul
  rw [if_neg (show ¬ (3 : Int) < 1 by decide)]
  split
  · exact ⟨by omega, fun c h => h⟩
  · constructor
    · show Array.size _ ≤ _
      simp [List.replicate]
      show z.cps.size + (z.cps.size + z.cps.size) ≤ 3 * z.cps.size
      omega
    · intro c h
      simp [List.replicate] at h
      simpa using h
theorem op_rep3 : OpR X (binaryOp .Mult) rRep3 := by
  intro pins sh sg H xv yv v1 u1 Q I r1 r2 h
  obtain ⟨z, rfl, rfl, hz, q⟩ := h
  obtain ⟨tk1, rfl⟩ := r1
  obtain ⟨tk2, rfl⟩ := r2
  have m3 := mul3_len z
  refine SB.mul ⟨by decide, fun _ _ hh => ?_, fun _ _ => ?_⟩ (fun tt kk => ⟨.str (Txt.mul z 3), H, I.tok _, ⟨_, rfl⟩, q _ m3.1 m3.2⟩)
  · have : ((2 : Int) ^ 63 - 1) / 3 = 3074457345618258602 := by decide
    omega
  · have e : (3 : Int).toNat = 3 := rfl
    rw [e]
    show decide _ = false
    refine decide_eq_false ?_
    have := sizeLine_eq
    omega
end
end Pot

namespace Pot
open PySem PySem.Spec PyProof.Rows L2
open Sem (wp)
/-! ### enumerate of a list or a tuple -/
set_option maxHeartbeats 1000000 in
theorem en_new {v : Value} {ob : Obj} {Ok : Heap → Prop} (B : Begins v ob Ok) :
    Meets (Builtin.«enumerate.__new__» ⟨[.type "enumerate", v], []⟩) (fun _ R s => Ok s.heap ∧ R (.ok (.ret (.ref (s.heap.push ob).objs.size))) { s with heap := (s.heap.push ob).push { cls := .type "enumerate", data := .fields #[.none, .bool false, .ref s.heap.objs.size, rawInt 0, .none, .none] } }) :=
  .of_wp fun prog w A R st hst => by
    obtain ⟨hp, gl, dd, tt, oo⟩ := st; obtain ⟨ok1, fin⟩ := hst; have isub := sub_enumerate
    have go : ∀ {A1 : Around} {E1 : Value → Shared → Prop} {Q1 : Value → Shared → Prop}, Q1 (.ref hp.objs.size) ⟨hp.push ob, gl, dd, tt, oo⟩ → wpAny (model prog w) A1 (pyIter v) Q1 E1 ⟨hp, gl, dd, tt, oo⟩ := fun z => B.iter prog w _ _ ⟨hp, gl, dd, tt, oo⟩ _ ok1 z
    wp_walk using go
    refine wpAny_stack_any fun stk => wpAny_pure ?_
    split
    · rename_i cc _ _ _ _ _; cases (cc == Value.type "enumerate") <;> (wp_walk using go; exact ⟨_, rfl, fin⟩)
    · wp_walk using go; exact ⟨_, rfl, fin⟩
/-- some untracked cells written, nothing new -/
theorem inv_ch {X : Cx} {pins : List (Addr × Obj)} {σ : L2.St} {H : Hp} {s : Shared} {h2 : Heap} {tk : Nat} {ch : List Addr} (I : Inv X pins σ H s) (kp : ∀ b o, b ∉ ch → s.heap.get? b = some o → h2.get? b = some o) (fo : ∀ b ∈ ch, FpOk X pins H b) :
    Inv X pins σ H { s with heap := h2, toks := tk } := by
  have out : ∀ c u, H c = some u → c ∉ ch := fun c u e z => by have := (fo c z).1; rw [this] at e; cases e
  refine I.step (g' := s.gens) (d' := s.drawn) (ch := ch) (fun c hc => let ⟨_, a2, _, a4, a5, a6⟩ := fo c hc; ⟨a4, a2, a5, a6⟩) (fun c o _ _ n e _ => kp c o n e) (fun c o _ _ n e _ => ⟨o.slots, kp c o n e⟩) (fun _ _ _ _ z => z) (fun c o n e => ⟨o, kp c o n e⟩) (fun _ _ z => z) (fun _ _ _ z => z) (fun c ps e => ⟨#[], by rw [e]; simp⟩) (fun mm hm => ?_) (fun c u e => ?_) I.bare
  · obtain ⟨o, e1, e2, ho, rest⟩ := hm; exact ⟨o, e1, e2, kp _ o (fun z => (fo _ z).2.1 rfl) ho, rest⟩
  · refine (I.hok c u e).stay (fun c2 v hc q => kp c2 v ?_ q) (fun _ z => z) fun _ _ z => z
    rcases hc with z | z
    · rw [z]; exact out c u e
    · exact out c2 _ z
def ItT (K : PySem.W.Frag) (a : Addr) : It :=
  ⟨fun i H => ∃ (xs : List V) (x : V), SqT K H a xs ∧ xs[i]? = some x, fun i H v H' => ∃ T x, v = .ref T ∧ H T = none ∧ H' = upd H T (.tup [.int (i : Nat), x]) ∧ ∀ xs, SqT K H a xs → xs[i]? = some x, fun i H => ∃ xs : List V, SqT K H a xs ∧ xs.length ≤ i⟩
/-- an iterator of a tuple that has come to its end -/
theorem drawsEnd {prog : Program} {w : World} {A : Around} (hh : A.handled = none) (it t : Addr) (items : Array Value) (i : Nat) (hi : items[i]? = none) :
    Draws prog w A it [it, t] i (fun _ _ => False) (fun j h => j = i ∧ h.IsTupleIter it t j ∧ h.IsTuple t items) where
  live := fun _ _ st => let ⟨o, ho, _⟩ := st.2.1; ⟨o, ho⟩
  frame := fun _ _ _ st hk => ⟨st.1, st.2.1.at fun o e => hk it (by simp) o e, st.2.2.at fun o e => hk t (by simp) o e⟩
  item := fun j _ _ _ hj st _ => absurd st.1 (Nat.ne_of_lt hj)
  done := fun s Q E st hE => wpAny_nextOf_tuple_end hh st.2.1 st.2.2 hi hE
theorem turn_enT {P : Program} {w : World} {K : PySem.W.Frag} {elts : List Expr} {kk : Nat} {tpos : Pos} (a e it : Addr) (ne1 : e ≠ it) :
    Turn P w K (.Tuple elts kk tpos) (ItT K a) [e, it] e (fun i h => (∃ old, IsEnum h e it (0 + ((i : Nat) : Int)) old) ∧ h.IsTupleIter it a i) where
  mem := by simp
  obj := fun i h st b hb => by
    obtain ⟨⟨old, he⟩, ⟨o, ho, hc, hd⟩⟩ := st
    rcases List.mem_cons.mp hb with z | z
    · rw [z]; exact ⟨_, he, fun v q => nomatch q⟩
    · rw [List.mem_singleton.mp z]; exact ⟨o, ho, fun v q => by rw [hd] at q; cases q⟩
  keep := fun i h h' st k => let ⟨⟨old, he⟩, hi⟩ := st; ⟨⟨old, k e (by simp) _ he⟩, hi.at fun o q => k it (by simp) o q⟩
  item := by
    intro X q1 q2 q3 hc i pins s σ H E I hf st hg; subst q1 q2 q3
    obtain ⟨⟨old, he⟩, hit⟩ := st
    obtain ⟨xs, x, hq, hx⟩ := hg
    obtain ⟨its, vals_, p, _⟩ := I.tuple hq
    obtain ⟨u, hu, ru⟩ := vals_.get hx
    have at_ : its.toArray[i]? = some u := by simpa using hu
    have hlt : i < its.toArray.size := (Array.getElem?_eq_some_iff.mp at_).1
    have nt : ∀ b ∈ [e, it], a ≠ b := fun b hb z => by
      obtain ⟨o, ho, cl, _⟩ := p
      rcases List.mem_cons.mp hb with y | y
      · rw [z, y] at ho
        rw [show s.heap.get? e = _ from he] at ho; cases ho; injection cl with cl; exact absurd cl (by decide)
      · rw [z, List.mem_singleton.mp y] at ho
        obtain ⟨o2, ho2, cl2, _⟩ := hit
        rw [ho2] at ho; cases ho
        rw [cl2] at cl; injection cl with cl; exact absurd cl (by decide)
    have G := GoesN.enumFrom (elts := elts) (x1 := kk) (pos := tpos) 0 (Draws.tuple (prog := X.prog) (w := X.w) (A := X.A.in1) (I.ok.hd hc) it a (nt it (by simp)) its.toArray) e ne1 (by simp [ne1, (nt e (by simp)).symm]) (by simp)
    refine G.goes i s _ _ hlt ⟨⟨old, he⟩, hit, p⟩ fun v h2 tk hY st2 hk _ => ?_
    obtain ⟨T, t, u2, rfl, hn, hu2, hT⟩ := hY
    have eu : u2 = u := Option.some.inj (hu2.symm.trans at_)
    subst eu
    rw [Int.zero_add] at hT
    have new : ObjOk X.prog X.w (upd H T (.tup [.int (i : Nat), x])) h2 T (.tup [.int (i : Nat), x]) := ⟨by show 2 ≤ sizeLine; decide, [.int i t, u2], .cons ⟨_, rfl⟩ (.cons ru .nil), hT⟩
    have I1 : Inv X pins σ (upd H T (.tup [.int (i : Nat), x])) { s with heap := h2, toks := tk } := I.turnedNew (ch := [e, it]) (fun b ob hb q => hk b ob hb q) hf hn new
    refine ⟨.ref T, _, I1, rfl, ⟨T, x, rfl, I.hok.fresh hn, rfl, fun ys hy => by rw [I.tuple_inj hy hq]; exact hx⟩, ⟨st2.1, st2.2.1⟩, fun b hb => ?_⟩
    have hb0 := (hf b hb).1
    have hbT : b ≠ T := by
      rcases List.mem_cons.mp hb with y | y
      · rw [y]; exact Nat.ne_of_lt (Nat.lt_of_lt_of_le (Heap.lt_size he) hn)
      · rw [List.mem_singleton.mp y]
        obtain ⟨o2, ho2, _⟩ := hit
        exact Nat.ne_of_lt (Nat.lt_of_lt_of_le (Heap.lt_size ho2) hn)
    rw [upd_ne hbT]; exact hb0
  done := by
    intro X q1 q2 q3 hc i pins s σ H E I hf st hg; subst q1 q2 q3
    obtain ⟨⟨old, he⟩, hit⟩ := st
    obtain ⟨xs, hq, hx⟩ := hg
    obtain ⟨its, vals_, p, _⟩ := I.tuple hq
    have hl := vals_.length
    have nt : ∀ b ∈ [e, it], a ≠ b := fun b hb z => by
      obtain ⟨o, ho, cl, _⟩ := p
      rcases List.mem_cons.mp hb with y | y
      · rw [z, y] at ho
        rw [show s.heap.get? e = _ from he] at ho; cases ho; injection cl with cl; exact absurd cl (by decide)
      · rw [z, List.mem_singleton.mp y] at ho
        obtain ⟨o2, ho2, cl2, _⟩ := hit
        rw [ho2] at ho; cases ho
        rw [cl2] at cl; injection cl with cl; exact absurd cl (by decide)
    have G := GoesN.enumFrom (elts := elts) (x1 := kk) (pos := tpos) 0 (drawsEnd (prog := X.prog) (w := X.w) (A := X.A.in1) (I.ok.hd hc) it a its.toArray i (by simp; omega)) e ne1 (by simp [ne1, (nt e (by simp)).symm]) (by simp)
    exact G.stops s _ _ ⟨⟨old, he⟩, rfl, hit, p⟩ fun h2 tk hk _ => inv_ch I hk hf
  self := fun _ _ _ _ _ st fin => let ⟨⟨_, he⟩, _⟩ := st; wpAny_pyIter_enum he fin
/-- enumerate(v), v a list or a tuple -/
def iEnA (K : PySem.W.Frag) (ta : TA) : TI := fun σ H R => ta σ H fun vs H1 => ∃ a xs, vs = [.ref a] ∧ ((SqL K H1 a xs ∧ R (Ite K a) H1) ∨ (SqT K H1 a xs ∧ R (ItT K a) H1))
theorem pi_enA {X : Cx} {e : Expr} {ta : TA} {p pos tpos : Pos} {elts : List Expr} {kk : Nat} (hg : Gl X "enumerate") (hm : X.mg "enumerate" = none) (ha : PA X [e] ta) (hs : starEach [e] X.env = [(false, eval e X.env)] := by rfl) :
    PI X (.Tuple elts kk tpos) (.Call (.Name "enumerate" p) [e] [] pos) (iEnA X.K ta) := by
  refine ⟨fun pins s σ H R I hi => ?_⟩
  refine Call_ (ld_blt I hg hm boot_enumerate (PyProof.Rows.callWith_type1 (thn (ha.run pos pins s σ H _ I hi) fun us s1 ⟨vs, H1, I1, r1, q1⟩ => ?_) hs rfl))
  obtain ⟨a, xs, ex, q⟩ := q1
  subst ex
  cases r1 with
  | cons r rr =>
    cases rr; cases r
    rcases q with ⟨hq, q⟩ | ⟨hq, q⟩
    · obtain ⟨its, rv, p2, hz⟩ := I1.list hq
      refine call_enumerate_list p2.isList fun h2 he hit hsz hk => wpAny_pyIter_enum he ?_
      refine ⟨s1.heap.objs.size + 1, [s1.heap.objs.size + 1, s1.heap.objs.size], _, _, H1, rfl, I1.kept (t' := s1.toks) hk, turn_enum a (s1.heap.objs.size + 1) s1.heap.objs.size, ⟨⟨.none, he⟩, hit, Nat.succ_ne_self _⟩, fun b hb => ?_, q⟩
      have hge : s1.heap.objs.size ≤ b := by
        rcases List.mem_cons.mp hb with z | z
        · rw [z]; exact Nat.le_add_right _ _
        · rw [List.mem_singleton.mp z]; exact Nat.le_refl _
      exact I1.fpOk hge (I1.hok.fresh hge)
    · obtain ⟨its, rv, p2, hz⟩ := I1.tuple hq
      refine callType_new F.called_enumerate (by decide) (F.typeCall_enumerate_1 _) (F.newCall_enumerate_1 _) (fun obj => F.args_object_init_2 obj _) F.entry_enumerate_new (en_new (begins_tuple a its.toArray)) ⟨p2, ?_⟩
      have sz : (s1.heap.push { cls := .type "tuple_iterator", data := .fields #[.ref a, .int 0 0] }).objs.size = s1.heap.objs.size + 1 := Heap.size_push ..
      show _ ∧ _
      rw [sz]
      have he : IsEnum ((s1.heap.push { cls := .type "tuple_iterator", data := .fields #[.ref a, .int 0 0] }).push { cls := .type "enumerate", data := .fields #[.none, .bool false, .ref s1.heap.objs.size, rawInt 0, .none, .none] }) (s1.heap.objs.size + 1) s1.heap.objs.size (0 + ((0 : Nat) : Int)) .none := by
        have g := Heap.get?_push_size (s1.heap.push { cls := .type "tuple_iterator", data := .fields #[.ref a, .int 0 0] }) (o := { cls := .type "enumerate", data := .fields #[.none, .bool false, .ref s1.heap.objs.size, rawInt 0, .none, .none] }) rfl
        rw [sz] at g; exact g
      refine ⟨⟨_, he, rfl⟩, wpAny_pyIter_enum he ⟨s1.heap.objs.size + 1, [s1.heap.objs.size + 1, s1.heap.objs.size], _, _, H1, rfl, I1.kept (t' := s1.toks) (fun b o z => Heap.get?_push_of_some _ (Heap.get?_push_of_some _ z)), turn_enT a (s1.heap.objs.size + 1) s1.heap.objs.size (Nat.succ_ne_self _), ⟨⟨.none, he⟩, ⟨_, Heap.get?_push_of_some _ (Heap.get?_push_size _ rfl), rfl, rfl⟩⟩, fun b hb => ?_, q⟩⟩
      have hge : s1.heap.objs.size ≤ b := by
        rcases List.mem_cons.mp hb with z | z
        · rw [z]; exact Nat.le_add_right _ _
        · rw [List.mem_singleton.mp z]; exact Nat.le_refl _
      exact I1.fpOk hge (I1.hok.fresh hge)
theorem walk_enT {K : PySem.W.Frag} {a : Addr} {xs : List V} : Walk (ItT K a) xs.length (fun H => SqT K H a xs) (YPair (fun i => some (.int (i : Nat))) (fun i => xs[i]?)) := by
  refine ⟨fun i _ hi hs => ⟨xs, xs[i], hs, by simp [hi]⟩, fun _ hs => ⟨xs, hs, Nat.le_refl _⟩, fun i H v H2 _ hs y => ?_⟩
  obtain ⟨T, x, e1, e2, e3, e4⟩ := y
  exact ⟨T, .int (i : Nat), x, e1, e2, e3, rfl, e4 xs hs⟩
theorem ko_catA {X : Cx} {K : PySem.W.Frag} (h : X.K = K := by rfl) : OpR X (binaryOp .Add) (rCatA K) := h ▸ op_catA
theorem ki_enA {X : Cx} {K : PySem.W.Frag} {e : Expr} {ta : TA} {p pos tpos : Pos} {elts : List Expr} {kk : Nat} (hg : Gl X "enumerate") (hm : X.mg "enumerate" = none) (ha : PA X [e] ta) (hs : starEach [e] X.env = [(false, eval e X.env)] := by rfl) (h : X.K = K := by rfl)
    : PI X (.Tuple elts kk tpos) (.Call (.Name "enumerate" p) [e] [] pos) (iEnA K ta) := h ▸ pi_enA hg hm ha hs
end Pot

namespace Pot
open PySem PySem.Spec PyProof.Rows L2
open Sem (wp)
/-! ### zip of three lists of one length -/
def It3 (K : PySem.W.Frag) (a b c : Addr) : It :=
  ⟨fun i H => ∃ (xs ys zs : List V) (x y z : V), SqL K H a xs ∧ SqL K H b ys ∧ SqL K H c zs ∧ xs[i]? = some x ∧ ys[i]? = some y ∧ zs[i]? = some z,
   fun i H v H2 => ∃ T x y z, v = .ref T ∧ H T = none ∧ H2 = upd H T (.tup [x, y, z]) ∧ (∀ xs, SqL K H a xs → xs[i]? = some x) ∧ (∀ ys, SqL K H b ys → ys[i]? = some y) ∧ ∀ zs, SqL K H c zs → zs[i]? = some z,
   fun i H => ∃ xs ys zs : List V, SqL K H a xs ∧ SqL K H b ys ∧ SqL K H c zs ∧ xs.length ≤ i ∧ ys.length ≤ i ∧ zs.length ≤ i⟩
/-- an iterator of a list that has come to its end -/
theorem drawsEndL {prog : Program} {w : World} {A : Around} (hh : A.handled = none) (it t : Addr) (items : Array Value) (i : Nat) (hi : items[i]? = none) :
    Draws prog w A it [it, t] i (fun _ _ => False) (fun j h => j = i ∧ h.IsListIter it t j ∧ h.IsList t items) where
  live := fun _ _ st => let ⟨o, ho, _⟩ := st.2.1; ⟨o, ho⟩
  frame := fun _ _ _ st hk => ⟨st.1, st.2.1.at fun o e => hk it (by simp) o e, st.2.2.at fun o e => hk t (by simp) o e⟩
  item := fun j _ _ _ hj st _ => absurd st.1 (Nat.ne_of_lt hj)
  done := fun s Q E st hE => wpAny_nextOf_list_end hh st.2.1 st.2.2 hi hE
theorem turn_z3 {P : Program} {w : World} {K : PySem.W.Frag} {elts : List Expr} {kk : Nat} {tpos : Pos} {a b c z TI TO i1 i2 i3 : Addr} (D : ZipSep3 z TI TO i1 i2 i3 [i1, a] [i2, b] [i3, c]) (n1 : a ≠ i1) (n2 : b ≠ i2) (n3 : c ≠ i3) :
    Turn P w K (.Tuple elts kk tpos) (It3 K a b c) [z, TI, TO, i1, i2, i3] z (fun i h => IsZip h z TI TO .none ∧ IsTupOf3 h TI (.ref i1) (.ref i2) (.ref i3) ∧ (∃ x y u, IsTupOf3 h TO x y u) ∧ h.IsListIter i1 a i ∧ h.IsListIter i2 b i ∧ h.IsListIter i3 c i) where
  mem := by simp
  obj := fun i h st m hm => by
    obtain ⟨hz, hTI, ⟨x, y, u, hTO⟩, ⟨o1, e1, _, d1⟩, ⟨o2, e2, _, d2⟩, ⟨o3, e3, _, d3⟩⟩ := st
    simp only [List.mem_cons, List.not_mem_nil, or_false] at hm
    rcases hm with e | e | e | e | e | e
    · subst e; exact ⟨_, hz, fun v q => nomatch q⟩
    · subst e; exact ⟨_, hTI, fun v q => nomatch q⟩
    · subst e; exact ⟨_, hTO, fun v q => nomatch q⟩
    · subst e; exact ⟨o1, e1, fun v q => by rw [d1] at q; cases q⟩
    · subst e; exact ⟨o2, e2, fun v q => by rw [d2] at q; cases q⟩
    · subst e; exact ⟨o3, e3, fun v q => by rw [d3] at q; cases q⟩
  keep := fun i h h2 st k => by
    obtain ⟨hz, hTI, ⟨x, y, u, hTO⟩, g1, g2, g3⟩ := st
    exact ⟨k z (by simp) _ hz, k TI (by simp) _ hTI, ⟨x, y, u, k TO (by simp) _ hTO⟩, g1.at fun o q => k i1 (by simp) o q, g2.at fun o q => k i2 (by simp) o q, g3.at fun o q => k i3 (by simp) o q⟩
  item := by
    intro X q1 q2 q3 hc i pins s σ H E I hf st hg; subst q1 q2 q3
    obtain ⟨hz, hTI, ⟨x0, y0, u0, hTO⟩, g1, g2, g3⟩ := st
    obtain ⟨xs, ys, us, x, y, u, hqa, hqb, hqc, hx, hy, hu⟩ := hg
    obtain ⟨its1, vs1, p1, _⟩ := I.list hqa
    obtain ⟨its2, vs2, p2, _⟩ := I.list hqb
    obtain ⟨its3, vs3, p3, _⟩ := I.list hqc
    obtain ⟨w1, hw1, r1⟩ := vs1.get hx
    obtain ⟨w2, hw2, r2⟩ := vs2.get hy
    obtain ⟨w3, hw3, r3⟩ := vs3.get hu
    have at1 : its1.toArray[i]? = some w1 := by simpa using hw1
    have at2 : its2.toArray[i]? = some w2 := by simpa using hw2
    have at3 : its3.toArray[i]? = some w3 := by simpa using hw3
    have l1 : i < its1.toArray.size := (Array.getElem?_eq_some_iff.mp at1).1
    have l2 : i < its2.toArray.size := (Array.getElem?_eq_some_iff.mp at2).1
    have l3 : i < its3.toArray.size := (Array.getElem?_eq_some_iff.mp at3).1
    have hh := I.ok.hd hc
    have G := GoesN.zip3 (elts := elts) (x1 := kk) (pos := tpos) D (Draws.list (prog := X.prog) (w := X.w) (A := X.A.in1) hh i1 a n1 its1.toArray) (Draws.list (prog := X.prog) (w := X.w) (A := X.A.in1) hh i2 b n2 its2.toArray) (Draws.list (prog := X.prog) (w := X.w) (A := X.A.in1) hh i3 c n3 its3.toArray)
    refine G.goes i s _ _ (by omega) ⟨hz, hTI, ⟨x0, y0, u0, hTO⟩, ⟨g1, p1.isList⟩, ⟨g2, p2.isList⟩, ⟨g3, p3.isList⟩⟩ fun v h2 tk hY st2 hk _ => ?_
    obtain ⟨T, t1, t2, t3, rfl, hn, e1, e2, e3, hT⟩ := hY
    cases Option.some.inj (e1.symm.trans at1)
    cases Option.some.inj (e2.symm.trans at2)
    cases Option.some.inj (e3.symm.trans at3)
    have new : ObjOk X.prog X.w (upd H T (.tup [x, y, u])) h2 T (.tup [x, y, u]) := ⟨by show 3 ≤ sizeLine; decide, [w1, w2, w3], .cons r1 (.cons r2 (.cons r3 .nil)), hT⟩
    have I1 : Inv X pins σ (upd H T (.tup [x, y, u])) { s with heap := h2, toks := tk } := I.turnedNew (ch := [z, TI, TO, i1, i2, i3]) (fun m ob hm q => hk m ob (fun e => hm (by simp only [List.mem_cons, List.not_mem_nil, or_false] at e ⊢; rcases e with e | e | e | e | e <;> simp [e])) q) hf hn new
    refine ⟨.ref T, _, I1, rfl, ⟨T, x, y, u, rfl, I.hok.fresh hn, rfl, fun l hl => by rw [I.list_inj hl hqa]; exact hx, fun l hl => by rw [I.list_inj hl hqb]; exact hy, fun l hl => by rw [I.list_inj hl hqc]; exact hu⟩, ⟨st2.1, st2.2.1, st2.2.2.1, st2.2.2.2.1.1, st2.2.2.2.2.1.1, st2.2.2.2.2.2.1⟩, fun m hm => ?_⟩
    have hm0 := (hf m hm).1
    have live : ∃ o, s.heap.get? m = some o := by
      obtain ⟨o1, f1, _⟩ := g1
      obtain ⟨o2, f2, _⟩ := g2
      obtain ⟨o3, f3, _⟩ := g3
      simp only [List.mem_cons, List.not_mem_nil, or_false] at hm
      rcases hm with e | e | e | e | e | e
      · subst e; exact ⟨_, hz⟩
      · subst e; exact ⟨_, hTI⟩
      · subst e; exact ⟨_, hTO⟩
      · subst e; exact ⟨_, f1⟩
      · subst e; exact ⟨_, f2⟩
      · subst e; exact ⟨_, f3⟩
    obtain ⟨o, ho⟩ := live
    rw [upd_ne (Nat.ne_of_lt (Nat.lt_of_lt_of_le (Heap.lt_size ho) hn))]; exact hm0
  done := by
    intro X q1 q2 q3 hc i pins s σ H E I hf st hg; subst q1 q2 q3
    obtain ⟨hz, hTI, ⟨x0, y0, u0, hTO⟩, g1, g2, g3⟩ := st
    obtain ⟨xs, ys, us, hqa, hqb, hqc, hx, hy, hu⟩ := hg
    obtain ⟨its1, vs1, p1, _⟩ := I.list hqa
    obtain ⟨its2, vs2, p2, _⟩ := I.list hqb
    obtain ⟨its3, vs3, p3, _⟩ := I.list hqc
    have m1 := vs1.length
    have m2 := vs2.length
    have m3 := vs3.length
    have hh := I.ok.hd hc
    have G := GoesN.zip3 (elts := elts) (x1 := kk) (pos := tpos) D (drawsEndL (prog := X.prog) (w := X.w) (A := X.A.in1) hh i1 a its1.toArray i (by simp; omega)) (drawsEndL (prog := X.prog) (w := X.w) (A := X.A.in1) hh i2 b its2.toArray i (by simp; omega)) (drawsEndL (prog := X.prog) (w := X.w) (A := X.A.in1) hh i3 c its3.toArray i (by simp; omega))
    rw [Nat.min_self, Nat.min_self] at G
    exact G.stops s _ _ ⟨hz, hTI, ⟨x0, y0, u0, hTO⟩, ⟨rfl, g1, p1.isList⟩, ⟨rfl, g2, p2.isList⟩, ⟨rfl, g3, p3.isList⟩⟩ fun h2 tk hk _ => inv_ch (ch := [z, TI, TO, i1, i2, i3]) I (fun m o hm q => hk m o (fun e => hm (by simp only [List.mem_cons, List.not_mem_nil, or_false] at e ⊢; rcases e with e | e | e | e | e <;> simp [e])) q) hf
  self := fun _ _ _ _ _ st fin => wpAny_pyIter_zip st.1 fin
def iZip3 (K : PySem.W.Frag) (ta : TA) : TI := fun σ H R => ta σ H fun vs H1 => ∃ a b c xs ys zs, vs = [.ref a, .ref b, .ref c] ∧ SqL K H1 a xs ∧ SqL K H1 b ys ∧ SqL K H1 c zs ∧ R (It3 K a b c) H1
theorem pi_zip3 {X : Cx} {e e2 e3 : Expr} {ta : TA} {p pos tpos : Pos} {elts : List Expr} {kk : Nat} (hg : Gl X "zip") (hm : X.mg "zip" = none) (ha : PA X [e, e2, e3] ta)
    (hs : starEach [e, e2, e3] X.env = (false, eval e X.env) :: starEach [e2, e3] X.env := by rfl) (hpl : (backTo pos (starEach [e2, e3] X.env)).any (·.1) = false := by rfl) :
    PI X (.Tuple elts kk tpos) (.Call (.Name "zip" p) [e, e2, e3] [] pos) (iZip3 X.K ta) := by
  refine ⟨fun pins s σ H R I hi => ?_⟩
  refine Call_ (ld_blt I hg hm PyProof.Rows.boot_zip (PyProof.Rows.callWith_type1 (thn (ha.run pos pins s σ H _ I hi) fun us s1 ⟨vs, H1, I1, r1, q1⟩ => ?_) hs hpl))
  obtain ⟨a, b, c, xs, ys, zs, ex, qa, qb, qc, q⟩ := q1
  subst ex
  cases r1 with
  | cons ra rr =>
    cases rr with
    | cons rb rr =>
      cases rr with
      | cons rc rr =>
        cases rr; cases ra; cases rb; cases rc
        obtain ⟨its1, _, p1, _⟩ := I1.list qa
        obtain ⟨its2, _, p2, _⟩ := I1.list qb
        obtain ⟨its3, _, p3, _⟩ := I1.list qc
        refine zip_begins3 (begins_list a its1.toArray) (begins_list b its2.toArray) (begins_list c its3.toArray) p1.isList p2.isList p3.isList fun h2 hz hTI hTO f1 f2 f3 hsz hk => wpAny_pyIter_zip hz ?_
        have below : ∀ {l : Addr} {its : List Value} {n : Nat}, s1.heap.get? l = some { cls := .type "list", data := .seq its.toArray n } → ∀ m ∈ [l], m < s1.heap.objs.size := fun h m hm => by rw [List.mem_singleton.mp hm]; exact Heap.lt_size h
        refine ⟨s1.heap.objs.size + 5, [s1.heap.objs.size + 5, s1.heap.objs.size + 3, s1.heap.objs.size + 4, s1.heap.objs.size, s1.heap.objs.size + 1, s1.heap.objs.size + 2], _, _, H1, rfl, I1.kept (t' := s1.toks) hk, turn_z3 (zip_sep3 (N := s1.heap.objs.size) (fp1 := [a]) (fp2 := [b]) (fp3 := [c]) ?_ ?_ ?_) ?_ ?_ ?_, ⟨hz, hTI, ⟨_, _, _, hTO⟩, ⟨_, f1, rfl, rfl⟩, ⟨_, f2, rfl, rfl⟩, ⟨_, f3, rfl, rfl⟩⟩, fun m hm => ?_, q⟩
        · exact fun m hm => by rw [List.mem_singleton.mp hm]; exact p1.lt
        · exact fun m hm => by rw [List.mem_singleton.mp hm]; exact p2.lt
        · exact fun m hm => by rw [List.mem_singleton.mp hm]; exact p3.lt
        · exact Nat.ne_of_lt p1.lt
        · exact Nat.ne_of_lt (Nat.lt_of_lt_of_le p2.lt (Nat.le_add_right _ _))
        · exact Nat.ne_of_lt (Nat.lt_of_lt_of_le p3.lt (Nat.le_add_right _ _))
        · have hge : s1.heap.objs.size ≤ m := by
            simp only [List.mem_cons, List.not_mem_nil, or_false] at hm
            rcases hm with e | e | e | e | e | e <;> (rw [e]; first | exact Nat.le_refl _ | exact Nat.le_add_right _ _)
          exact I1.fpOk hge (I1.hok.fresh hge)
theorem ki_zip3 {X : Cx} {K : PySem.W.Frag} {e e2 e3 : Expr} {ta : TA} {p pos tpos : Pos} {elts : List Expr} {kk : Nat} (hg : Gl X "zip") (hm : X.mg "zip" = none) (ha : PA X [e, e2, e3] ta)
    (hs : starEach [e, e2, e3] X.env = (false, eval e X.env) :: starEach [e2, e3] X.env := by rfl) (hpl : (backTo pos (starEach [e2, e3] X.env)).any (·.1) = false := by rfl) (h : X.K = K := by rfl) :
    PI X (.Tuple elts kk tpos) (.Call (.Name "zip" p) [e, e2, e3] [] pos) (iZip3 K ta) := h ▸ pi_zip3 hg hm ha hs hpl
def Y3 (f g k : Nat → Option V) : Nat → Hp → V → Hp → Prop := fun i H v H2 => ∃ T x y z, v = .ref T ∧ H T = none ∧ H2 = upd H T (.tup [x, y, z]) ∧ f i = some x ∧ g i = some y ∧ k i = some z
theorem walk_z3 {K : PySem.W.Frag} {a b c : Addr} {xs ys zs : List V} (h1 : ys.length = xs.length) (h2 : zs.length = xs.length) : Walk (It3 K a b c) xs.length (fun H => SqL K H a xs ∧ SqL K H b ys ∧ SqL K H c zs) (Y3 (fun i => xs[i]?) (fun i => ys[i]?) (fun i => zs[i]?)) := by
  refine ⟨fun i _ hi hs => ⟨xs, ys, zs, xs[i], ys[i]'(by omega), zs[i]'(by omega), hs.1, hs.2.1, hs.2.2, by simp [hi], by simp [show i < ys.length by omega], by simp [show i < zs.length by omega]⟩, fun _ hs => ⟨xs, ys, zs, hs.1, hs.2.1, hs.2.2, by omega, by omega, by omega⟩, fun i H v H2 _ hs y => ?_⟩
  obtain ⟨T, x, y, z, e1, e2, e3, e4, e5, e6⟩ := y
  exact ⟨T, x, y, z, e1, e2, e3, e4 xs hs.1, e5 ys hs.2.1, e6 zs hs.2.2⟩
end Pot

namespace Pot
open PySem PySem.Spec PyProof.Rows L2
open PySem.Calls
open PySem.W (sortingHeap copyHeap sortLe alike alikeAll keyToks keyToksAll dataLt dataKind KatLex SortsAt sortVals dataType EachIs)
/-! ### sorted of rows that are told apart by parts that can be compared -/
/-- up to the first part in which they differ, that one too, two rows are alike -/
def okCmp : List PyData → List PyData → Bool
  | x :: xs, y :: ys => alike x y && (!PyData.eqv x y || okCmp xs ys)
  | [], [] => true
  | _, _ => false
section
variable {prog : Program} {w : World} {A : Around} {s : Shared}
theorem kat_ok {b fin : Bool} {Q : Bool → Shared → Prop} : ∀ (xs ys : List PyData) (i : Nat) (vs ws : List Value) (as bs : List Addr), ReadsAll s.heap vs xs as → ReadsAll s.heap ws ys bs → okCmp xs ys = true → A.units + min (PyData.depthAll xs) (PyData.depthAll ys) < cLine → (b = true → i = 0 → ∀ x r t, xs = x :: r → x ≠ .tuple t) → fin = decide (xs.length < ys.length) →
    Q (PyProof.Rows.lexLt itemOrd (keyToksAll xs) (keyToksAll ys)) s → KatLex prog w A b fin Q (vs.zip ws) i s := by
  intro xs
  induction xs with
  | nil =>
    intro ys i vs ws as bs ra rb ok hu hb hf hq
    have := PySem.W.katLex_alike (prog := prog) (w := w) (A := A) (s := s) (b := b) (fin := fin) (Q := Q) [] ys i vs ws as bs ra rb
    cases ys with
    | nil => exact this rfl hu hb hf hq
    | cons y ys => cases ok
  | cons x xs ih =>
    intro ys i vs ws as bs ra rb ok hu hb hf hq
    cases ys with
    | nil => cases ok
    | cons y ys =>
      obtain ⟨al, nx⟩ := Bool.and_eq_true_iff.mp ok
      have hf2 : fin = decide (xs.length < ys.length) := by rw [hf]; simp only [List.length_cons, Nat.add_lt_add_iff_right]
      cases ra with
      | cons r rs =>
        cases rb with
        | cons r2 rs2 =>
          rw [List.zip_cons_cons]
          refine PySem.W.kat_cons (PySem.W.eqAt_alike x y A s _ _ _ _ r r2 al (SeqAt.room_head hu) prog w _ _ ?_)
          cases ex : PyData.eqv x y with
          | true =>
            rw [PySem.W.dataLt_all_yes al ex] at hq
            rw [ex] at nx
            exact PySem.W.kat_yes (ih ys (i + 1) _ _ _ _ rs rs2 nx (SeqAt.room_tail hu) (fun _ h0 => absurd h0 (Nat.succ_ne_zero i)) hf2 hq)
          | false =>
            rw [PySem.W.dataLt_all_no al ex] at hq
            refine PySem.W.kat_no (PySem.W.oneLt_alike (fun hbi t => ?_) r r2 al (PySem.W.ne_none_of al ex) (SeqAt.room_head hu) hq)
            obtain ⟨b1, b2⟩ := Bool.and_eq_true_iff.mp hbi
            exact hb b1 (by simpa using b2) x xs t rfl
theorem key_of {h : Heap} {ds : List PyData} {v : Value} {d : PyData} {as : List Addr} (hd : d ∈ ds) (r : Reads h v d as) : (dataKind h ds).keyOf v = some (keyToks d) := by
  have ex : ∃ e, e ∈ ds ∧ ∃ bs, Reads h v e bs := ⟨d, hd, as, r⟩
  have eq1 : (dataKind h ds).keyOf v = some (keyToks ex.choose) := dif_pos ex
  obtain ⟨_, bs, r2⟩ := ex.choose_spec
  rw [eq1, (Reads.unique r2 _ _ r).1]
/-- rows that can be sorted: tuples with a first part, the first parts alike, each two comparable -/
structure RowsCmp (ds : List PyData) : Prop where
  form : ∀ d ∈ ds, ∃ x r, d = .tuple (x :: r)
  first : ∀ x r x2 r2, PyData.tuple (x :: r) ∈ ds → PyData.tuple (x2 :: r2) ∈ ds → alike x x2 = true
  cmp : ∀ xs ys, PyData.tuple xs ∈ ds → PyData.tuple ys ∈ ds → okCmp xs ys = true
theorem sorts_rows {vs : List Value} {ds : List PyData} (e : EachIs (fun v d => ∃ as, Reads s.heap v d as) vs ds) (W : RowsCmp ds) (hu : ∀ d, d ∈ ds → A.units + d.depth < cLine) : SortsAt prog w A s (dataKind s.heap ds) vs := by
  refine ⟨fun v hv => ?_, ?_⟩
  · obtain ⟨d, hd, as, r⟩ := e.left v hv
    exact ⟨_, key_of hd r⟩
  · cases hds : ds with
    | nil =>
      rw [hds] at e
      cases e
      exact ⟨general', fun E x y a b Q ha _ _ => (by obtain ⟨d, _, hd, _⟩ := PySem.W.dataKind_inv ha; exact absurd hd (by simp)), fun h2 => absurd h2 (by simp)⟩
    | cons d0 ds0 =>
      rw [← hds]
      have m0 : d0 ∈ ds := by rw [hds]; exact List.mem_cons_self
      obtain ⟨x0, r0, e0⟩ := W.form d0 m0
      have m0 : PyData.tuple (x0 :: r0) ∈ ds := by rw [← e0]; exact m0
      refine ⟨tuples' (dataType x0 != Value.type "tuple"), ?_, fun h2 E Q hq => ?_⟩
      · intro E x y a b Q ha hb hq
        obtain ⟨d, as, hd, ra, rfl⟩ := PySem.W.dataKind_inv ha
        obtain ⟨d2, as2, hd2, rb, rfl⟩ := PySem.W.dataKind_inv hb
        obtain ⟨x1, r1, rfl⟩ := W.form d hd
        obtain ⟨x2, r2, rfl⟩ := W.form d2 hd2
        have room : A.units + min (PyData.tuple (x1 :: r1)).depth (PyData.tuple (x2 :: r2)).depth < cLine := Nat.lt_of_le_of_lt (Nat.add_le_add_left (Nat.min_le_left _ _) _) (hu _ hd)
        have hq2 : Q (dataLt (.tuple (x1 :: r1)) (.tuple (x2 :: r2))) s := hq
        rw [PySem.W.dataLt_tuple] at hq2
        cases ra with
        | @tuple l o us n _ _ h1 h2 h3 h4 =>
          cases rb with
          | @tuple l2 o2 us2 n2 _ _ k1 k2 k3 k4 =>
            have z1 : us.size = (x1 :: r1).length := by simpa using SeqAt.ReadsAll.length _ _ _ h4
            have z2 : us2.size = (x2 :: r2).length := by simpa using SeqAt.ReadsAll.length _ _ _ k4
            refine PySem.W.kat_lt h1 h3 k1 k3 (kat_ok (prog := prog) (w := w) (A := A) (s := s) (x1 :: r1) (x2 :: r2) 0 _ _ _ _ h4 k4 (W.cmp _ _ hd hd2) (by have := SeqAt.room_in room; omega) (fun hb1 _ xx rr t ex => ?_) (by rw [z1, z2]) hq2)
            obtain ⟨rfl, rfl⟩ := List.cons.inj ex
            rw [← PySem.W.dataType_alike (W.first _ _ _ _ hd m0)] at hb1
            exact PySem.W.dataType_tuple hb1 t
      · obtain ⟨fs, t1, t2, t3⟩ := PySem.W.each_katTups e W.form
        refine PySem.W.kat_kind (T := dataType x0) t1 (by omega) (fun f hf => ?_) (beq_self_eq_true _) hq
        obtain ⟨xx, rr, as, m1, m2⟩ := t3 f hf
        rw [← PySem.W.dataType_alike (W.first _ _ _ _ m1 m0)]
        exact PySem.W.looks_reads m2
end
theorem perm_lift {α β : Type} (f : α → β) {out l : List β} (h : out.Perm l) : ∀ L : List α, L.map f = l → ∃ L2 : List α, L2.Perm L ∧ L2.map f = out := by
  induction h with
  | nil => intro L e; exact ⟨L, .refl _, e⟩
  | cons x _ ih =>
    intro L e
    cases L with
    | nil => cases e
    | cons y L =>
      obtain ⟨e1, e2⟩ := List.cons.inj e
      obtain ⟨L2, p2, m2⟩ := ih L e2
      exact ⟨y :: L2, p2.cons y, by rw [List.map_cons, m2, e1]⟩
  | swap x y l =>
    intro L e
    match L, e with
    | a :: b :: L, e =>
      obtain ⟨e1, e2⟩ := List.cons.inj e
      obtain ⟨e2, e3⟩ := List.cons.inj e2
      exact ⟨b :: a :: L, .swap a b L, by rw [List.map_cons, List.map_cons, e1, e2, e3]⟩
  | trans _ _ ih1 ih2 =>
    intro L e
    obtain ⟨L2, p2, m2⟩ := ih2 L e
    obtain ⟨L3, p3, m3⟩ := ih1 L2 m2
    exact ⟨L3, p3.trans p2, m3⟩
section
variable {X : Cx} {K : PySem.W.Frag}
theorem each_reads {pins : List (Addr × Obj)} {σ : L2.St} {H : Hp} {s : Shared} (I : Inv X pins σ H s) : ∀ {xs : List V} {its : List Value} {ds : List PyData}, Vals xs its → DpAll X.K H xs ds → ∃ L : List (Value × V × PyData), L.map (·.1) = its ∧ L.map (·.2.1) = xs ∧ L.map (·.2.2) = ds ∧ ∀ t ∈ L, RelV t.2.1 t.1 ∧ Dp X.K H t.2.1 t.2.2
  | _, _, _, .nil, .nil => ⟨[], rfl, rfl, rfl, fun _ h => (List.not_mem_nil h).elim⟩
  | _, _, _, .cons (a := x) (b := u) r rs, .cons (d := d) p ps => by
    obtain ⟨L, h1, h2, h3, h4⟩ := each_reads I rs ps
    refine ⟨(u, x, d) :: L, by rw [List.map_cons, h1], by rw [List.map_cons, h2], by rw [List.map_cons, h3], fun t ht => ?_⟩
    rcases List.mem_cons.mp ht with e | e
    · rw [e]; exact ⟨r, p⟩
    · exact h4 t e
/-- sorted of a list of rows: a new list of the same ones -/
def rSortedR (K : PySem.W.Frag) : List V → Hp → VK → Prop := fun vs H Q => ∃ (a : Addr) (xs : List V) (ds : List PyData), vs = [V.ref a] ∧ SqL K H a xs ∧ DpAll K H xs ds ∧ RowsCmp ds ∧ (∀ d ∈ ds, d.depth ≤ 60) ∧
  ∀ (zs : List V) (es : List PyData) (p : Addr), DpAll K H zs es → es.Perm ds → H p = none → Q (.ref p) (upd H p (.lst zs))
theorem cr_sortedR (hu : X.A.units + 70 < cLine) : CallR X (.builtin "sorted") (rSortedR X.K) := by
  intro pins s σ H vs0 us0 Q I r h
  obtain ⟨a, xs, ds, rfl, hs, da, W, dep, q⟩ := h
  obtain ⟨its, rv, hl, hz⟩ := I.list hs
  rw [Vals.ref1 r]
  obtain ⟨L, e1, e2, e3, all⟩ := each_reads I rv da
  have er : EachIs (fun v d => ∃ as, Reads s.heap v d as) its ds := by
    rw [← e1, ← e3]
    clear e1 e2 e3
    induction L with
    | nil => exact .nil
    | cons t L ih =>
      have ht := all t List.mem_cons_self
      exact .cons (Dp.reads I _ _ _ ht.2 ht.1) (ih fun x hx => all x (List.mem_cons_of_mem _ hx))
  have ll : its.length = xs.length := by rw [← e1, ← e2, List.length_map, List.length_map]
  have ln : its.length ≤ sizeLine := by rw [ll]; exact hz
  have er' : EachIs (fun v d => ∃ as, Reads (sortingHeap (copyHeap s.heap its) (s.heap.objs.size + 1) its) v d as) its ds := er.mono fun _ _ ⟨as, r⟩ => ⟨as, PyProof.Rows.Reads.keeps (fun _ _ => PySem.W.sorting_copy_old) r⟩
  have S := sorts_rows (prog := X.prog) (w := X.w) (A := X.A.in1.in1) (s := { s with heap := sortingHeap (copyHeap s.heap its) (s.heap.objs.size + 1) its }) er' W (fun d hd => by have := dep d hd; simp only [Around.in1]; omega)
  refine PySem.W.sorted_vals hl.isList S ln ?_
  generalize eo : sortVals _ false its its = out
  have po : out.Perm its := by
    rw [← eo]
    unfold sortVals
    have := (List.mergeSort_perm (its.zip its) (sortLe (dataKind (sortingHeap (copyHeap s.heap its) (s.heap.objs.size + 1) its) ds).toKeyOrd false fun p : Keyed => PySem.W.keyD (dataKind (sortingHeap (copyHeap s.heap its) (s.heap.objs.size + 1) its) ds) p.1)).map Prod.snd
    rw [List.map_snd_zip (Nat.le_refl _)] at this
    exact this
  obtain ⟨L2, p2, m2⟩ := perm_lift (·.1) po L e1
  have rv2 : Vals (L2.map (·.2.1)) out := by
    rw [← m2]
    clear m2
    have hh : ∀ t ∈ L2, RelV t.2.1 t.1 := fun t ht => (all t (p2.mem_iff.mp ht)).1
    clear p2
    induction L2 with
    | nil => exact .nil
    | cons t L2 ih => exact .cons (hh t List.mem_cons_self) (ih fun x hx => hh x (List.mem_cons_of_mem _ hx))
  have dp2 : DpAll X.K H (L2.map (·.2.1)) (L2.map (·.2.2)) := by
    have hh : ∀ t ∈ L2, Dp X.K H t.2.1 t.2.2 := fun t ht => (all t (p2.mem_iff.mp ht)).2
    clear p2 m2 rv2
    induction L2 with
    | nil => exact .nil
    | cons t L2 ih => exact .cons (hh t List.mem_cons_self) (ih fun x hx => hh x (List.mem_cons_of_mem _ hx))
  have pd : (L2.map (·.2.2)).Perm ds := by rw [← e3]; exact p2.map _
  obtain ⟨ep, hat⟩ := PyProof.Rows.sortedAll_at s.heap its out.toArray
  have fr : H (s.heap.objs.size + 1) = none := I.hok.fresh (Nat.le_succ _)
  exact ⟨.ref _, upd H (s.heap.objs.size + 1) (.lst (L2.map (·.2.1))), I.laid (t' := s.toks) (fun _ _ => PyProof.Rows.sortedAll_old) (Nat.le_succ _) ⟨by rw [List.length_map, p2.length_eq, ← List.length_map (f := fun x : Value × V × PyData => x.1), e1]; exact ln, out, ep, rv2, hat⟩, rfl, q _ _ _ dp2 pd fr⟩
theorem kc_sortedR (hu : X.A.units + 70 < cLine) (h : X.K = K := by rfl) : CallR X (.builtin "sorted") (rSortedR K) := h ▸ cr_sortedR hu
end
end Pot

namespace Pot
open PySem PySem.Spec PyProof.Rows L2
/-! ### a box of three numbers: the second below 2 ^ 62, the last at most n -/
def Bp (H : Hp) (b : Addr) (n : Nat) : Prop := ∃ x y z : Int, H b = some (.lst [.int x, .int y, .int z]) ∧ 0 ≤ z ∧ z ≤ n ∧ 0 ≤ y ∧ y < 2 ^ 62
section
variable {H H' : Hp} {b p : Addr} {n m : Nat} {o : HO}
theorem Bp.bx (B : Bp H b n) : Bx H b := by
  obtain ⟨x, y, z, h, _⟩ := B
  exact ⟨x, y, z, h⟩
theorem Bp.same (B : Bp H b n) (s : Same H H') : Bp H' b n := by
  obtain ⟨x, y, z, h, h2⟩ := B
  exact ⟨x, y, z, s _ _ h, h2⟩
theorem Bp.put (B : Bp H b n) (h : H p = none) : Bp (upd H p o) b n := B.same (same_upd h)
theorem Bp.wr (B : Bp H b n) (h : p ≠ b) : Bp (upd H p o) b n := by
  obtain ⟨x, y, z, e, h2⟩ := B
  exact ⟨x, y, z, by rw [upd_ne h.symm]; exact e, h2⟩
theorem Bp.mono (B : Bp H b n) (h : n ≤ m) : Bp H b m := by
  obtain ⟨x, y, z, e, h1, h2, h3⟩ := B
  exact ⟨x, y, z, e, h1, by omega, h3⟩
theorem Bp.ne (B : Bp H b n) (h : H p = none) : p ≠ b := B.bx.ne h
theorem Live.pw (B : Bp H b n) : Live [b] H := Live.one B.bx
end
end Pot

namespace Pot
open PySem PySem.Spec PyProof.Rows L2
/-! ### the names of cluster C: unlike each other -/
def Nm (z : Str) : Prop := Wd 8 z ∧ 0 < z.length
def ltN (x : Int) : Str := ⟨#[97 + x.toNat]⟩
theorem str_app (a b : Str) : (a ++ b).cps.toList = a.cps.toList ++ b.cps.toList := by
  show (a.cps ++ b.cps).toList = _
  simp
theorem str_eq {a b : Str} (h : a = b) : a.cps.toList = b.cps.toList := by rw [h]
theorem ltN_list (x : Int) : (ltN x).cps.toList = [97 + x.toNat] := rfl
theorem ltN_len (x : Int) : (ltN x).length = 1 := rfl
def vlN (fi stp : Int) (i : Nat) : Int := (fi + stp * (0 + (i : Int))) % 676
def bsN (hd tl : Str) (fi stp : Int) (i : Nat) : Str := hd ++ ltN (vlN fi stp i / 26) ++ ltN (vlN fi stp i % 26) ++ tl
def nmN (hd tl : Str) (fi stp lo : Int) (i : Nat) : Str := if lo = 1 ∧ i % 2 = 1 then bsN hd tl fi stp (i - 1) ++ ltN ((fi + (0 + (i : Int))) % 26) else bsN hd tl fi stp i
def StpN (s : Int) : Prop := s = 1 ∨ s = 3 ∨ s = 5 ∨ s = 7 ∨ s = 25 ∨ s = 675
theorem vlN_pos (fi stp : Int) (i : Nat) : 0 ≤ vlN fi stp i ∧ vlN fi stp i < 676 := ⟨Int.emod_nonneg _ (by decide), Int.emod_lt_of_pos _ (by decide)⟩
theorem bsN_len (hd tl : Str) (fi stp : Int) (i : Nat) : (bsN hd tl fi stp i).length = hd.length + 2 + tl.length := by
  unfold bsN
  rw [strLen_append, strLen_append, strLen_append, ltN_len, ltN_len]
theorem bsN_wd {hd tl : Str} (h1 : Wd 3 hd) (h2 : Wd 2 tl) (fi stp : Int) (i : Nat) : Wd 7 (bsN hd tl fi stp i) ∧ 0 < (bsN hd tl fi stp i).length := by
  have := vlN_pos fi stp i
  refine ⟨wd_add (wd_add (wd_add h1 (wd_letter (by omega) (by omega))) (wd_letter (by omega) (by omega))) h2, ?_⟩
  rw [bsN_len]; omega
theorem nmN_nm {hd tl : Str} (h1 : Wd 3 hd) (h2 : Wd 2 tl) (fi stp lo : Int) (i : Nat) : Nm (nmN hd tl fi stp lo i) := by
  unfold nmN
  have l0 : 0 ≤ (fi + (0 + (i : Int))) % 26 := Int.emod_nonneg _ (by decide)
  have l1 : (fi + (0 + (i : Int))) % 26 < 26 := Int.emod_lt_of_pos _ (by decide)
  by_cases h : lo = 1 ∧ i % 2 = 1
  · rw [if_pos h]
    have b := bsN_wd h1 h2 fi stp (i - 1)
    exact ⟨wd_add b.1 (wd_letter l0 l1), by rw [strLen_append]; have := b.2; omega⟩
  · rw [if_neg h]
    have b := bsN_wd h1 h2 fi stp i
    exact ⟨b.1.mono (by decide), b.2⟩
theorem stp_inj {fi stp : Int} (s : StpN stp) {i j : Nat} (hi : i < 12) (hj : j < 12) (h : vlN fi stp i = vlN fi stp j) : i = j := by
  unfold vlN at h
  rcases s with rfl | rfl | rfl | rfl | rfl | rfl <;> omega
theorem stp_inj26 {fi stp : Int} (s : StpN stp) {i j : Nat} (hi : i < 12) (hj : j < 12) (h : (fi + stp * (0 + (i : Int))) % 26 = (fi + stp * (0 + (j : Int))) % 26) : i = j := by
  rcases s with rfl | rfl | rfl | rfl | rfl | rfl <;> omega
theorem bsN_inj {hd tl : Str} {fi stp : Int} (s : StpN stp) {i j : Nat} (hi : i < 12) (hj : j < 12) (h : bsN hd tl fi stp i = bsN hd tl fi stp j) : i = j := by
  have h2 := str_eq h
  unfold bsN at h2
  simp only [str_app, ltN_list, List.append_assoc, List.append_cancel_left_eq, List.cons_append, List.nil_append, List.cons.injEq] at h2
  have a := vlN_pos fi stp i
  have b := vlN_pos fi stp j
  exact stp_inj (fi := fi) s hi hj (by omega)
theorem nmN_inj {hd tl : Str} {fi stp lo : Int} (s : StpN stp) {i j : Nat} (hi : i < 12) (hj : j < 12) (h : nmN hd tl fi stp lo i = nmN hd tl fi stp lo j) : i = j := by
  unfold nmN at h
  by_cases c1 : lo = 1 ∧ i % 2 = 1 <;> by_cases c2 : lo = 1 ∧ j % 2 = 1
  · rw [if_pos c1, if_pos c2] at h
    have h2 := str_eq h
    rw [str_app, str_app] at h2
    have l : (bsN hd tl fi stp (i - 1)).cps.toList.length = (bsN hd tl fi stp (j - 1)).cps.toList.length := by
      have e1 := bsN_len hd tl fi stp (i - 1)
      have e2 := bsN_len hd tl fi stp (j - 1)
      rw [Array.length_toList, Array.length_toList]
      exact e1.trans e2.symm
    have h3 := (List.append_inj h2 l).1
    have h4 : bsN hd tl fi stp (i - 1) = bsN hd tl fi stp (j - 1) := by
      cases e1 : bsN hd tl fi stp (i - 1) with
      | mk x => cases e2 : bsN hd tl fi stp (j - 1) with
        | mk y =>
          rw [e1, e2] at h3
          exact congrArg Str.mk (Array.toList_inj.mp h3)
    have := bsN_inj s (i := i - 1) (j := j - 1) (by omega) (by omega) h4
    omega
  · rw [if_pos c1, if_neg c2] at h
    have := congrArg Str.length h
    rw [strLen_append, bsN_len, bsN_len, ltN_len] at this
    omega
  · rw [if_neg c1, if_pos c2] at h
    have := congrArg Str.length h
    rw [strLen_append, bsN_len, bsN_len, ltN_len] at this
    omega
  · rw [if_neg c1, if_neg c2] at h
    exact bsN_inj s hi hj h
theorem nodup_map_range {f : Nat → Str} {m : Nat} (h : ∀ i j, i < m → j < m → f i = f j → i = j) : ((List.range m).map f).Nodup := by
  rw [List.Nodup, List.pairwise_map]
  refine List.Pairwise.imp_of_mem (fun {a b} ha hb hab e => ?_) (List.nodup_range (n := m))
  exact hab (h a b (List.mem_range.mp ha) (List.mem_range.mp hb) e)
theorem nmN_nodup {hd tl : Str} {fi stp lo : Int} (s : StpN stp) {m : Nat} (hm : m ≤ 12) : ((List.range m).map (nmN hd tl fi stp lo)).Nodup :=
  nodup_map_range fun i j hi hj h => nmN_inj s (by omega) (by omega) h
theorem letN_nodup {fi stp : Int} (s : StpN stp) {m : Nat} (hm : m ≤ 12) : ((List.range m).map fun i : Nat => ltN ((fi + stp * (0 + (i : Int))) % 26)).Nodup :=
  nodup_map_range fun i j hi hj h => by
    have h2 := str_eq h
    rw [ltN_list, ltN_list] at h2
    have h3 := (List.cons.inj h2).1
    have a0 : 0 ≤ (fi + stp * (0 + (i : Int))) % 26 := Int.emod_nonneg _ (by decide)
    have b0 : 0 ≤ (fi + stp * (0 + (j : Int))) % 26 := Int.emod_nonneg _ (by decide)
    exact stp_inj26 (fi := fi) s (by omega) (by omega) (by omega)
def wordsN : List Str := ["never", "at", "undo", "slots", "done", "wash", "pot", "kind", "fill", "gather", "team", "colour"]
theorem words_eq : Txt.split (Str.ofString "never at undo slots done wash pot kind fill gather team colour") (Str.ofString " ") = wordsN := by decide +kernel
theorem words_nm : ∀ z ∈ wordsN, Nm z := by
  unfold Nm Wd wordsN
  decide +kernel
theorem words_nodup : ∀ j : Nat, j < 12 → ((wordsN ++ wordsN).drop j |>.take 12).Nodup := by
  unfold wordsN
  decide +kernel
theorem words_cut {j m : Nat} (hj : j < 12) (hm : m ≤ 12) : ((wordsN ++ wordsN).drop j |>.take m).Nodup ∧ ((wordsN ++ wordsN).drop j |>.take m).length = m ∧ ∀ z ∈ ((wordsN ++ wordsN).drop j |>.take m), Nm z := by
  refine ⟨?_, ?_, fun z hz => ?_⟩
  · have := words_nodup j hj
    have e : ((wordsN ++ wordsN).drop j |>.take m) = (((wordsN ++ wordsN).drop j |>.take 12).take m) := by rw [List.take_take, Nat.min_eq_left hm]
    rw [e]
    exact this.sublist (List.take_sublist _ _)
  · rw [List.length_take, List.length_drop, List.length_append]
    show min m (12 + 12 - j) = m
    omega
  · have := List.mem_of_mem_drop (List.mem_of_mem_take hz)
    exact (List.mem_append.mp this).elim (words_nm z) (words_nm z)
theorem wd1_sum : ∀ {l : List Str}, (∀ y ∈ l, Wd 1 y) → (l.map (·.length)).sum ≤ l.length
  | [], _ => Nat.le_refl _
  | a :: r, h => by
    have h1 := (h a List.mem_cons_self).1
    have h2 := wd1_sum (l := r) fun y hy => h y (List.mem_cons_of_mem _ hy)
    simp only [List.map_cons, List.sum_cons, List.length_cons]
    omega
end Pot

namespace Pot
open PySem PySem.Spec PyProof.Rows L2
/-! ### the palettes of cluster C -/
structure PalC (cs : List Col) (ws : List Wsh) : Prop where
  ok : PalOk cs ws
  ne : 0 < cs.length
  le : cs.length ≤ 12
  ch : ∀ c ∈ cs, 1 ≤ c.2.1 ∧ c.2.1 ≤ 20 ∧ 0 ≤ c.2.2.1 ∧ c.2.2.1 ≤ 99
  wa : ∀ r ∈ ws, ∀ i, r.2.2 = some i → 0 ≤ i ∧ i ≤ 99
  wd : ∀ c ∈ cs, Nm c.1
  nd : (cs.map (·.1)).Nodup
  wp : (ws.map fun r => (r.1, r.2.1)).Nodup
  wn : ∀ r ∈ ws, r.1 ≠ r.2.1
/-- what stands while a palette is made: the names at N, colours at C, washes at W -/
structure PMc (K : PySem.W.Frag) (H0 : Hp) (b C W N : Addr) (ns : List Str) (n : Nat) (xs us : List V) (cs : List Col) (ws : List Wsh) (H : Hp) : Prop where
  st : Bp H b n
  sm : Sm [b] H0 H
  hN : off H [C, W, b] N = some (.lst (ns.map V.str))
  hC : H C = some (.lst xs)
  dC : DpAll K (off H [C, W, b]) xs (cs.map colD)
  hW : H W = some (.lst us)
  dW : DpAll K (off H [C, W, b]) us (ws.map washD)
structure PAc (H0 : Hp) (b C W : Addr) : Prop where
  Cb : C ≠ b
  Wb : W ≠ b
  CW : C ≠ W
  nC : H0 C = none
  nW : H0 W = none
section
variable {K : PySem.W.Frag} {H0 H H' : Hp} {b C W N p : Addr} {ns : List Str} {n m : Nat} {xs us : List V} {cs : List Col} {ws : List Wsh} {o : HO}
theorem PMc.live (P : PMc K H0 b C W N ns n xs us cs ws H) : Live [C, W, b] H := ((Live.pw P.st).cons P.hW).cons P.hC
theorem PMc.drawn (P : PMc K H0 b C W N ns n xs us cs ws H) (a : PAc H0 b C W) (st : Bp H' b m) (s : Sm [b] H H') : PMc K H0 b C W N ns m xs us cs ws H' :=
  have s2 : Sm [C, W, b] H H' := sm_one (by simp) s
  ⟨st, P.sm.trans s, s2 _ _ P.hN, sm1_at s a.Cb P.hC, dpAll_same s2 P.dC, sm1_at s a.Wb P.hW, dpAll_same s2 P.dW⟩
theorem PMc.same (P : PMc K H0 b C W N ns n xs us cs ws H) (s : Same H H') : PMc K H0 b C W N ns n xs us cs ws H' :=
  have s2 : Sm [C, W, b] H H' := sm_of s
  ⟨P.st.same s, P.sm.trans (sm_of s), s2 _ _ P.hN, s _ _ P.hC, dpAll_same s2 P.dC, s _ _ P.hW, dpAll_same s2 P.dW⟩
theorem PMc.put (P : PMc K H0 b C W N ns n xs us cs ws H) (h : H p = none) : PMc K H0 b C W N ns n xs us cs ws (upd H p o) := P.same (same_upd h)
theorem PMc.mono (P : PMc K H0 b C W N ns n xs us cs ws H) (h : n ≤ m) : PMc K H0 b C W N ns m xs us cs ws H := ⟨P.st.mono h, P.sm, P.hN, P.hC, P.dC, P.hW, P.dW⟩
theorem PMc.colour (P : PMc K H0 b C W N ns n xs us cs ws H) (a : PAc H0 b C W) {v : V} {r : Col} (hv : Dp K (off H [C, W, b]) v (colD r)) : PMc K H0 b C W N ns n (xs ++ [v]) us (cs ++ [r]) ws (upd H C (.lst (xs ++ [v]))) :=
  have s2 : Sm [C, W, b] H (upd H C (.lst (xs ++ [v]))) := sm_wr (by simp)
  ⟨P.st.wr a.Cb, smp P.sm a.nC, s2 _ _ P.hN, upd_same, by rw [List.map_append]; exact dpAll_same s2 (dpAll_app P.dC (.cons hv .nil)), by rw [upd_ne a.CW.symm]; exact P.hW, dpAll_same s2 P.dW⟩
theorem PMc.wash (P : PMc K H0 b C W N ns n xs us cs ws H) (a : PAc H0 b C W) {v : V} {r : Wsh} (hv : Dp K (off H [C, W, b]) v (washD r)) : PMc K H0 b C W N ns n xs (us ++ [v]) cs (ws ++ [r]) (upd H W (.lst (us ++ [v]))) :=
  have s2 : Sm [C, W, b] H (upd H W (.lst (us ++ [v]))) := sm_wr (by simp)
  ⟨P.st.wr a.Wb, smp P.sm a.nW, s2 _ _ P.hN, by rw [upd_ne a.CW]; exact P.hC, dpAll_same s2 P.dC, upd_same, by rw [List.map_append]; exact dpAll_same s2 (dpAll_app P.dW (.cons hv .nil))⟩
end
theorem rows_cols (cs : List Col) : RowsCmp (cs.map colD) := by
  refine ⟨fun d hd => ?_, fun x r x2 r2 h1 h2 => ?_, fun xs ys h1 h2 => ?_⟩
  · obtain ⟨c, _, rfl⟩ := List.mem_map.mp hd
    exact ⟨_, _, rfl⟩
  · obtain ⟨c, _, e⟩ := List.mem_map.mp h1
    obtain ⟨c2, _, e2⟩ := List.mem_map.mp h2
    obtain ⟨rfl, _⟩ := List.cons.inj (PyData.tuple.inj e)
    obtain ⟨rfl, _⟩ := List.cons.inj (PyData.tuple.inj e2)
    rfl
  · obtain ⟨c, _, e⟩ := List.mem_map.mp h1
    obtain ⟨c2, _, e2⟩ := List.mem_map.mp h2
    rw [← PyData.tuple.inj e, ← PyData.tuple.inj e2]
    have a1 : ∀ x y : Str, PySem.W.alike (.str x) (.str y) = true := fun _ _ => rfl
    have a2 : ∀ x y : Int, PySem.W.alike (.int x) (.int y) = true := fun _ _ => rfl
    simp only [okCmp, a1, a2, Bool.true_and, Bool.or_true, Bool.and_true]
theorem depth_col (c : Col) : (colD c).depth ≤ 60 := by
  show PyData.depthAll _ + 1 ≤ 60
  simp only [PyData.depthAll, PyData.depth]
  omega
theorem depth_wash (r : Wsh) : (washD r).depth ≤ 60 := by
  show PyData.depthAll _ + 1 ≤ 60
  cases h : r.2.2 <;> (simp only [PyData.depthAll, PyData.depth, optD]; omega)
theorem alike_opt (o : Option Int) : PySem.W.alike (optD o) (optD o) = true := by cases o <;> rfl
theorem pair_eq {ws : List Wsh} (h : (ws.map fun r => (r.1, r.2.1)).Nodup) {r r2 : Wsh} (h1 : r ∈ ws) (h2 : r2 ∈ ws) (e1 : r.1 = r2.1) (e2 : r.2.1 = r2.2.1) : r = r2 := by
  obtain ⟨i, hi, rfl⟩ := List.getElem_of_mem h1
  obtain ⟨j, hj, rfl⟩ := List.getElem_of_mem h2
  have := (List.getElem_inj (i := i) (j := j) (h₀ := by rw [List.length_map]; exact hi) (h₁ := by rw [List.length_map]; exact hj) h).mp (by rw [List.getElem_map, List.getElem_map]; exact Prod.ext e1 e2)
  subst this; rfl
theorem rows_wash {ws : List Wsh} (h : (ws.map fun r => (r.1, r.2.1)).Nodup) : RowsCmp (ws.map washD) := by
  refine ⟨fun d hd => ?_, fun x r x2 r2 h1 h2 => ?_, fun xs ys h1 h2 => ?_⟩
  · obtain ⟨c, _, rfl⟩ := List.mem_map.mp hd
    exact ⟨_, _, rfl⟩
  · obtain ⟨c, _, e⟩ := List.mem_map.mp h1
    obtain ⟨c2, _, e2⟩ := List.mem_map.mp h2
    obtain ⟨rfl, _⟩ := List.cons.inj (PyData.tuple.inj e)
    obtain ⟨rfl, _⟩ := List.cons.inj (PyData.tuple.inj e2)
    rfl
  · obtain ⟨c, m1, e⟩ := List.mem_map.mp h1
    obtain ⟨c2, m2, e2⟩ := List.mem_map.mp h2
    rw [← PyData.tuple.inj e, ← PyData.tuple.inj e2]
    have a1 : ∀ x y : Str, PySem.W.alike (.str x) (.str y) = true := fun _ _ => rfl
    simp only [okCmp, a1, Bool.true_and, Bool.or_true, Bool.and_true]
    cases e1 : PyData.eqv (.str c.1) (.str c2.1) with
    | false => rfl
    | true =>
      cases e3 : PyData.eqv (.str c.2.1) (.str c2.2.1) with
      | false => rfl
      | true =>
        have x1 : c.1 = c2.1 := by simpa [PyData.eqv] using e1
        have x2 : c.2.1 = c2.2.1 := by simpa [PyData.eqv] using e3
        rw [pair_eq h m1 m2 x1 x2, alike_opt]; rfl
section
variable {K : PySem.W.Frag}
theorem go_offB {H : Hp} {b : Addr} {n : Nat} (B : Bp H b n) (a : Addr) (us : List V) (h : SqT K H a us) : SqT K (off H [b]) a us := by
  obtain ⟨x, y, z, h1, _⟩ := B
  have go : ∀ o, (H a = some (.tup us) ∨ H a = some (.frz o (.tup us))) → a ∉ [b] := fun o e z => by
    rw [List.mem_singleton] at z; subst z; rw [h1] at e; rcases e with e | e <;> cases e
  rcases h with (h | ⟨o, h⟩) | h
  · exact .inl (.inl (by rw [off_out (go ⟨.none, none, .fields #[], #[]⟩ (.inl h))]; exact h))
  · exact .inl (.inr ⟨o, by rw [off_out (go o (.inr h))]; exact h⟩)
  · exact .inr h
theorem dp_offB {H : Hp} {b : Addr} {n : Nat} {v : V} {e : PyData} (B : Bp H b n) (h : noLAll.noL e) (p : Dp K H v e) : Dp K (off H [b]) v e := dp_go (go_offB B) h p
theorem dpAll_offB {H : Hp} {b : Addr} {n : Nat} {vs : List V} {es : List PyData} (B : Bp H b n) (h : noLAll es) (p : DpAll K H vs es) : DpAll K (off H [b]) vs es := dpAll_go (go_offB B) h p
end
theorem div_mod_inj {m i j : Nat} (h1 : i / m = j / m) (h2 : i % m = j % m) : i = j := by
  have a := Nat.div_add_mod i m
  have b := Nat.div_add_mod j m
  rw [h1, h2] at a
  omega
end Pot

namespace Pot
open PySem PySem.Spec PyProof.Rows L2
/-! ### a list that is filled while there is drawn, things beside it that stay -/
structure Acc (K : PySem.W.Frag) (H0 : Hp) (b R : Addr) (fs : List (V × PyData)) (n : Nat) (us : List V) (ds : List PyData) (H : Hp) : Prop where
  st : Bp H b n
  sm : Sm [b] H0 H
  Rb : R ≠ b
  nR : H0 R = none
  fr : ∀ p ∈ fs, Dp K (off H [R, b]) p.1 p.2
  hR : H R = some (.lst us)
  dR : DpAll K (off H [R, b]) us ds
section
variable {K : PySem.W.Frag} {H0 H H' : Hp} {b R p : Addr} {fs : List (V × PyData)} {n m : Nat} {us : List V} {ds : List PyData} {o : HO}
theorem Acc.live (M : Acc K H0 b R fs n us ds H) : Live [R, b] H := (Live.pw M.st).cons M.hR
theorem Acc.drawn (M : Acc K H0 b R fs n us ds H) (st : Bp H' b m) (s : Sm [b] H H') : Acc K H0 b R fs m us ds H' :=
  have s2 : Sm [R, b] H H' := sm_one (by simp) s
  ⟨st, M.sm.trans s, M.Rb, M.nR, fun q hq => dp_same s2 (M.fr q hq), sm1_at s M.Rb M.hR, dpAll_same s2 M.dR⟩
theorem Acc.same (M : Acc K H0 b R fs n us ds H) (s : Same H H') : Acc K H0 b R fs n us ds H' :=
  have s2 : Sm [R, b] H H' := sm_of s
  ⟨M.st.same s, M.sm.trans (sm_of s), M.Rb, M.nR, fun q hq => dp_same s2 (M.fr q hq), s _ _ M.hR, dpAll_same s2 M.dR⟩
theorem Acc.put (M : Acc K H0 b R fs n us ds H) (h : H p = none) : Acc K H0 b R fs n us ds (upd H p o) := M.same (same_upd h)
theorem Acc.mono (M : Acc K H0 b R fs n us ds H) (h : n ≤ m) : Acc K H0 b R fs m us ds H := ⟨M.st.mono h, M.sm, M.Rb, M.nR, M.fr, M.hR, M.dR⟩
theorem Acc.app (M : Acc K H0 b R fs n us ds H) {v : V} {d : PyData} (hv : Dp K (off H [R, b]) v d) : Acc K H0 b R fs n (us ++ [v]) (ds ++ [d]) (upd H R (.lst (us ++ [v]))) :=
  have s2 : Sm [R, b] H (upd H R (.lst (us ++ [v]))) := sm_wr (by simp)
  ⟨M.st.wr M.Rb, smp M.sm M.nR, M.Rb, M.nR, fun q hq => dp_same s2 (M.fr q hq), upd_same, dpAll_same s2 (dpAll_app M.dR (.cons hv .nil))⟩
/-- the list is new -/
theorem Acc.start (B : Bp H b n) (s : Sm [b] H0 H) (h : H R = none) (fr : ∀ p ∈ fs, Dp K (off H [b]) p.1 p.2) : Acc K H0 b R fs n [] [] (upd H R (.lst [])) :=
  ⟨B.put h, s.trans (sm_put h), B.ne h, sm_free s B.bx h, fun q hq => by
    have e : off (upd H R (.lst [])) [R, b] = off H [b] := off_fresh h
    rw [e]; exact fr q hq, upd_same, .nil⟩
theorem Acc.new (M : Acc K H0 b R fs n us ds H) (h : H p = none) : off (upd H p o) [R, b] p = some o := off_new M.live h
/-- the list done: a thing among the others -/
theorem Acc.done (M : Acc K H0 b R fs n us ds H) : Dp K (off H [b]) (.ref R) (.list ds) :=
  .lst (SqL.of (by rw [off_out (by simpa using M.Rb)]; exact M.hR)) (dpAll_same (off_mono (by simp)) M.dR)
theorem Acc.kept (M : Acc K H0 b R fs n us ds H) {q : V × PyData} (h : q ∈ fs) : Dp K (off H [b]) q.1 q.2 := dp_same (off_mono (by simp)) (M.fr q h)
end
theorem e106 : (10 : Int) ^ (6 : Int).toNat = 1000000 := by decide
end Pot

namespace Pot
open PySem PySem.Spec PyProof.Rows L2
section
variable {K : PySem.W.Frag}
/-! ### bounds of drawn data, its texts too -/
def txAll (n : Nat) : List PyData → Prop
  | [] => True
  | x :: xs => tx n x ∧ txAll n xs
where tx (n : Nat) : PyData → Prop
  | .str x => x.length ≤ n ∧ ∀ c ∈ x.cps.toList, c < 128
  | .list xs => txAll n xs
  | .tuple xs => txAll n xs
  | _ => True
abbrev tx (n : Nat) (d : PyData) : Prop := txAll.tx n d
theorem txAll_iff {n : Nat} : ∀ {ds : List PyData}, txAll n ds ↔ ∀ d ∈ ds, tx n d
  | [] => ⟨fun _ _ h => (List.not_mem_nil h).elim, fun _ => trivial⟩
  | x :: xs => ⟨fun h d hd => (List.mem_cons.mp hd).elim (fun e => by rw [e]; exact h.1) fun e => txAll_iff.mp h.2 d e, fun h => ⟨h x List.mem_cons_self, txAll_iff.mpr fun d hd => h d (List.mem_cons_of_mem _ hd)⟩⟩
mutual
theorem tx_mono {n k : Nat} (h : n ≤ k) : ∀ d : PyData, tx n d → tx k d
  | .none, _ => trivial
  | .bool _, _ => trivial
  | .int _, _ => trivial
  | .str x, g => ⟨Nat.le_trans g.1 h, g.2⟩
  | .list xs, g => txAll_mono h xs g
  | .tuple xs, g => txAll_mono h xs g
  | .dict _, _ => trivial
theorem txAll_mono {n k : Nat} (h : n ≤ k) : ∀ ds : List PyData, txAll n ds → txAll k ds
  | [], _ => trivial
  | x :: xs, g => ⟨tx_mono h x g.1, txAll_mono h xs g.2⟩
end
structure Bd (n m C D W : Nat) (d : PyData) : Prop where
  t : Th m C D W d
  x : tx n d
structure Bds (n m C D W : Nat) (ds : List PyData) : Prop where
  t : Ths m C D W ds
  x : ∀ d ∈ ds, tx n d
section
variable {n m C D W n' m' C' D' W' : Nat} {d x : PyData} {ds es xs ys : List PyData}
theorem Bd.mono (h : Bd n m C D W d) (a : n ≤ n') (b : m ≤ m') (c : C ≤ C') (e : D ≤ D') (f : W ≤ W') : Bd n' m' C' D' W' d := ⟨h.t.mono b c e f, tx_mono a d h.x⟩
theorem Bds.mono (h : Bds n m C D W ds) (a : n ≤ n') (b : m ≤ m') (c : C ≤ C') (e : D ≤ D') (f : W ≤ W') : Bds n' m' C' D' W' ds := ⟨h.t.mono b c e f, fun d hd => tx_mono a d (h.x d hd)⟩
theorem Bds.nil : Bds n m 0 D W [] := ⟨Ths.nil, fun _ h => (List.not_mem_nil h).elim⟩
theorem Bds.app (h : Bds n m C D W xs) (k : Bds n m C' D W ys) : Bds n m (C + C') D W (xs ++ ys) := ⟨h.t.app k.t, fun d hd => (List.mem_append.mp hd).elim (h.x d) (k.x d)⟩
theorem Bds.one (h : Bd n m C D W x) : Bds n m (C + 2) D W [x] := ⟨Ths.one h.t, fun d hd => by rw [List.mem_singleton.mp hd]; exact h.x⟩
theorem Bds.list (h : Bds n m C D W ds) (l : ds.length ≤ W) : Bd n m (C + 3) (D + 1) W (.list ds) := ⟨h.t.list l, txAll_iff.mpr h.x⟩
theorem Bds.tuple (h : Bds n m C D W ds) (l : ds.length ≤ W) : Bd n m (C + 3) (D + 1) W (.tuple ds) := ⟨h.t.tuple l, txAll_iff.mpr h.x⟩
theorem Bd.parts (h : Bd n m C D W d) (e : d = .list ds ∨ d = .tuple ds) : Bds n m (C - 3) (D - 1) W ds ∧ ds.length ≤ W ∧ 3 ≤ C ∧ 1 ≤ D := by
  obtain ⟨a, b⟩ := h.t.parts e
  refine ⟨⟨a, ?_⟩, b⟩
  rcases e with rfl | rfl
  · exact txAll_iff.mp h.x
  · exact txAll_iff.mp h.x
theorem Bds.take (h : Bds n m C D W ds) (k : Nat) : Bds n m C D W (ds.take k) := ⟨h.t.take k, fun d hd => h.x d (List.mem_of_mem_take hd)⟩
theorem Bds.drop (h : Bds n m C D W ds) (k : Nat) : Bds n m C D W (ds.drop k) := ⟨h.t.drop k, fun d hd => h.x d (List.mem_of_mem_drop hd)⟩
theorem Bds.rev (h : Bds n m C D W ds) : Bds n m C D W ds.reverse := ⟨h.t.rev, fun d hd => h.x d (List.mem_reverse.mp hd)⟩
theorem Bds.set {i : Nat} (h : Bds n m C D W ds) (k : Bd n m C' D W x) : Bds n m (C + C' + 2) D W (ds.set i x) := ⟨h.t.set k.t, fun d hd => (List.mem_or_eq_of_mem_set hd).elim (h.x d) fun e => by rw [e]; exact k.x⟩
theorem Bds.mem (h : Bds n m C D W ds) (e : d ∈ ds) : Bd n m C D W d := ⟨h.t.mem e, h.x d e⟩
theorem bd_int {i : Int} (h : i.natAbs ≤ m) : Bd n m 1921 0 0 (.int i) := ⟨⟨h, Nat.le_refl _, Nat.le_refl _, Nat.le_refl _⟩, trivial⟩
theorem bd_bool (b : Bool) : Bd n m 5 0 0 (.bool b) := ⟨⟨trivial, Nat.le_refl _, Nat.le_refl _, Nat.le_refl _⟩, trivial⟩
theorem bd_none : Bd n m 4 0 0 .none := ⟨⟨trivial, Nat.le_refl _, Nat.le_refl _, Nat.le_refl _⟩, trivial⟩
theorem bd_str {z : Str} (h : z.length ≤ n) (h2 : n ≤ 2000) (c : ∀ x ∈ z.cps.toList, x < 128) : Bd n m (10 * n + 2) 0 0 (.str z) := ⟨⟨⟨Nat.le_trans h h2, fun x hx => Nat.lt_trans (c x hx) (by decide)⟩, by show 10 * z.length + 2 ≤ _; omega, Nat.le_refl _, Nat.le_refl _⟩, h, c⟩
end
theorem text_small {i : Int} (h : i.natAbs < 10 ^ 11) : (Str.ofString (toString i)).length ≤ 12 := by
  rw [PySem.ofString_length]
  exact int_text_length_le10 (k := 11) (by decide) h
theorem text_ascii (i : Int) : ∀ c ∈ (Str.ofString (toString i)).cps.toList, c < 128 := by
  intro c hc
  refine Decidable.byContradiction fun h => ?_
  exact PyProof.Rows.int_text_free' c ⟨by omega, by omega⟩ i hc
theorem cut_small (z : Str) (lo hi : Option Int) : (cutS z lo hi).length ≤ z.length := by
  have := cut_len z lo hi
  have h1 : HT.sIx z.length z.length hi ≤ z.length := HT.sIx_le _ _ (Nat.le_refl _) _
  omega
theorem cut_dp {H : Hp} {xs : List V} {ds : List PyData} {n m C D W : Nat} (da : DpAll K H xs ds) (b : Bds n m C D W ds) (lo hi : Option Int) : ∃ ys es, cutV xs lo hi = ys ∧ DpAll K H ys es ∧ Bds n m C D W es ∧ es.length ≤ ds.length ∧ ys.length = es.length := by
  refine ⟨_, (ds.drop (HT.sIx xs.length 0 lo)).take (HT.sIx xs.length xs.length hi - HT.sIx xs.length 0 lo), rfl, ?_, (b.drop _).take _, ?_, ?_⟩
  · exact dpAll_take _ (dpAll_drop _ da)
  · rw [List.length_take, List.length_drop]; omega
  · exact dpAll_len (dpAll_take _ (dpAll_drop _ da))
theorem cut_one (xs : List V) (a : Nat) : (cutV xs (some (a : Int)) (some ((a : Int) + 1))).length ≤ 1 := by
  unfold cutV
  rw [List.length_take, List.length_drop]
  rw [show ((a : Int) + 1) = ((a + 1 : Nat) : Int) by omega, HT.sIx_nat, HT.sIx_nat]
  omega
theorem str_mem_app {a b : Str} {x : Nat} (h : x ∈ (a ++ b).cps.toList) : x ∈ a.cps.toList ∨ x ∈ b.cps.toList := by
  have e : (a ++ b).cps.toList = a.cps.toList ++ b.cps.toList := Array.toList_append
  rw [e] at h
  exact List.mem_append.mp h
abbrev SqA (K : PySem.W.Frag) (H : Hp) (a : Addr) (xs : List V) : Prop := SqL K H a xs ∨ SqT K H a xs
theorem sq_same {H H' : Hp} {a : Addr} {xs : List V} (s : Same H H') (h : SqA K H a xs) : SqA K H' a xs := h.imp s.seq (same_tup s)
theorem sqa_off {H : Hp} {S : List Addr} {a : Addr} {xs : List V} (h : SqA K (off H S) a xs) : SqA K H a xs := sq_same off_sub h
theorem sqa_len {H : Hp} {a : Addr} {xs : List V} (h : SqA K H a xs) : LenV K (.ref a) H xs.length := h.elim (fun h => .inl ⟨_, h, rfl⟩) (fun h => .inr ⟨_, h, rfl⟩)
end
theorem upper_len {z : Str} (h : ∀ c ∈ z.cps.toList, c < 128) : (Txt.upper z).length = z.length := by
  rw [PyProof.Rows.upper_ascii h]
  show (z.cps.map _).size = z.cps.size
  rw [Array.size_map]
theorem upper_small {z : Str} (h : ∀ c ∈ z.cps.toList, c < 128) : ∀ c ∈ (Txt.upper z).cps.toList, c < 128 := by
  rw [PyProof.Rows.upper_ascii h]
  intro c hc
  have hc : c ∈ z.cps.toList.map PyProof.Rows.up1 := by simpa using hc
  obtain ⟨d, hd, rfl⟩ := List.mem_map.mp hc
  have := h d hd
  unfold PyProof.Rows.up1
  split <;> omega
theorem log_smallW {i : Int} (h : i.natAbs ≤ 10 ^ 12) : i.natAbs.log2 < 1920 := by
  by_cases z : i.natAbs = 0
  · rw [z]; decide
  · have := (Nat.log2_lt z).mpr (show i.natAbs < 2 ^ 40 from Nat.lt_of_le_of_lt h (by decide))
    omega
mutual
theorem gd_fineW {m : Nat} (h : m ≤ 10 ^ 12) : ∀ d : PyData, gd m d → fineAll.fine d
  | .none, _ => trivial
  | .bool _, _ => trivial
  | .int i, g => log_smallW (Nat.le_trans g h)
  | .str _, g => fun c hc => Nat.lt_trans (g.2 c hc) (by decide)
  | .list xs, g => gdAll_fineW h xs g
  | .tuple xs, g => gdAll_fineW h xs g
  | .dict _, g => g.elim
theorem gdAll_fineW {m : Nat} (h : m ≤ 10 ^ 12) : ∀ ds : List PyData, gdAll m ds → fineAll ds
  | [], _ => trivial
  | x :: xs, g => ⟨gd_fineW h x g.1, gdAll_fineW h xs g.2⟩
end
theorem Nm.ascii {z : Str} (h : Nm z) : ∀ c ∈ z.cps.toList, c < 128 := fun c hc => by have := (h.1.2 c hc).2; omega
theorem ascii_of {s : String} (h : (Str.ofString s).cps.toList.all (fun c => decide (c < 128)) = true) : ∀ c ∈ (Str.ofString s).cps.toList, c < 128 := fun c hc => of_decide_eq_true (List.all_eq_true.mp h c hc)
theorem ascii_app {a b : Str} (h1 : ∀ x ∈ a.cps.toList, x < 128) (h2 : ∀ x ∈ b.cps.toList, x < 128) : ∀ x ∈ (a ++ b).cps.toList, x < 128 := fun x hx => (str_mem_app hx).elim (h1 x) (h2 x)
theorem ascii_cut {z : Str} (h : ∀ x ∈ z.cps.toList, x < 128) (lo hi : Option Int) : ∀ x ∈ (cutS z lo hi).cps.toList, x < 128 := fun x hx => h x (cut_mem hx)
end Pot

namespace Pot
open PySem PySem.Spec PyProof.Rows L2
/-! ### lists and tuples alike: slices, sums, places -/
section
variable {X : Cx} {K : PySem.W.Frag}
def rSlS' (K : PySem.W.Frag) : V → Option Int → Option Int → Hp → VK → Prop := fun x lo hi H Q => rSlL K x lo hi H Q ∨ rSlA K x lo hi H Q
theorem kl_any (h : X.K = K := by rfl) : SlR X (rSlS' K) := h ▸ SlR.or sl_list sl_tupA
def rCatS' (K : PySem.W.Frag) : R2 := fun x y H Q => rCat x y H Q ∨ rCatA K x y H Q
theorem ko_catS (h : X.K = K := by rfl) : OpR X (binaryOp .Add) (rCatS' K) := h ▸ OpR.or op_cat op_catA
def rIxS' (K : PySem.W.Frag) : R2 := fun x y H Q => rIxL K x y H Q ∨ rIxT K x y H Q
theorem kx_any (h : X.K = K := by rfl) : IxR X (rIxS' K) := h ▸ IxR.or ix_list ix_tup
end
/-- a list's or a tuple's data -/
def seqD (t : Bool) (ds : List PyData) : PyData := if t = true then .tuple ds else .list ds
theorem seqD_t (ds : List PyData) : seqD true ds = .tuple ds := rfl
theorem seqD_l (ds : List PyData) : seqD false ds = .list ds := rfl
theorem seqD_or (t : Bool) (ds : List PyData) : seqD t ds = .list ds ∨ seqD t ds = .tuple ds := by cases t; exact .inl rfl; exact .inr rfl
theorem seqD_tup (t : Bool) (ds : List PyData) : isTupD (seqD t ds) = t := by cases t <;> rfl
theorem seqD_seq (t : Bool) (ds : List PyData) : (isListD (seqD t ds) || isTupD (seqD t ds)) = true := by cases t <;> rfl
def cutL (ds : List PyData) (lo hi : Option Int) : List PyData := (ds.drop (HT.sIx ds.length 0 lo)).take (HT.sIx ds.length ds.length hi - HT.sIx ds.length 0 lo)
theorem cutL_le (ds : List PyData) (lo hi : Option Int) : (cutL ds lo hi).length ≤ ds.length := by
  unfold cutL
  rw [List.length_take, List.length_drop]; omega
theorem cutL_head (ds : List PyData) (a : Nat) : cutL ds none (some (a : Int)) = ds.take a := by
  unfold cutL
  rw [HT.sIx_nat]
  show (ds.drop 0).take (min a ds.length - 0) = _
  rw [List.drop_zero, Nat.sub_zero]
  rcases Nat.le_total a ds.length with h | h
  · rw [Nat.min_eq_left h]
  · rw [Nat.min_eq_right h, List.take_length, List.take_of_length_le h]
theorem cutL_tail (ds : List PyData) (a : Nat) : cutL ds (some (a : Int)) none = ds.drop a := by
  unfold cutL
  rw [HT.sIx_nat]
  show (ds.drop (min a ds.length)).take (ds.length - min a ds.length) = _
  rcases Nat.le_total a ds.length with h | h
  · rw [Nat.min_eq_left h, List.take_of_length_le (by rw [List.length_drop]; exact Nat.le_refl _)]
  · rw [Nat.min_eq_right h, List.drop_length, List.drop_of_length_le h, List.take_nil]
/-- a value that is a list of its own or a tuple -/
def SeqV (K : PySem.W.Frag) (H : Hp) (t : Bool) (y : V) (ds : List PyData) : Prop := ∃ a xs, y = .ref a ∧ DpAll K H xs ds ∧ (if t = true then SqT K H a xs else H a = some (.lst xs))
section
variable {K : PySem.W.Frag} {H H' : Hp} {S : List Addr} {t : Bool} {x y : V} {ds es : List PyData} {lo hi : Option Int} {Q : VK}
theorem SeqV.dp (h : SeqV K H t y ds) : Dp K H y (seqD t ds) := by
  obtain ⟨a, xs, rfl, da, hs⟩ := h
  cases t with
  | true => exact .tup hs da
  | false => exact .lst (SqL.of hs) da
theorem SeqV.same (s : Same H H') (h : SeqV K H t y ds) : SeqV K H' t y ds := by
  obtain ⟨a, xs, rfl, da, hs⟩ := h
  refine ⟨a, xs, rfl, dpAll_same s da, ?_⟩
  cases t with
  | true => exact same_tup s hs
  | false => exact s _ _ hs
theorem sl_seq (lv : Live S H) (d : Dp K (off H S) x (seqD t ds)) (q : ∀ H' y, Same H H' → SeqV K (off H' S) t y (cutL ds lo hi) → Q y H') : rSlS' K x lo hi H Q := by
  cases t with
  | true =>
    obtain ⟨a, xs, rfl, hs, da⟩ := dp_tup d
    have lx := dpAll_len da
    refine .inr ⟨a, xs, rfl, sqt_off hs, fun h => ?_, fun h p np => ?_⟩
    · refine q _ _ (Same.refl _) ⟨a, xs, rfl, ?_, hs⟩
      have e : cutL ds lo hi = ds := by
        unfold cutL
        rw [lx] at h
        rw [h.1, h.2, List.drop_zero, Nat.sub_zero, List.take_length]
      rw [e]; exact da
    · refine q _ _ (same_upd np) ⟨p, _, rfl, ?_, .inl (.inl (off_new lv np))⟩
      unfold cutL
      rw [← lx]
      exact dpAll_same (sm_put np) (dpAll_take _ (dpAll_drop _ da))
  | false =>
    obtain ⟨a, xs, rfl, hs, da⟩ := dp_lst d
    have lx := dpAll_len da
    refine .inl ⟨a, xs, rfl, sq_off hs, fun p np => ?_⟩
    refine q _ _ (same_upd np) ⟨p, _, rfl, ?_, off_new lv np⟩
    unfold cutL
    rw [← lx]
    exact dpAll_same (sm_put np) (dpAll_take _ (dpAll_drop _ da))
theorem cat_seq (lv : Live S H) (d : SeqV K (off H S) t x ds) (e : SeqV K (off H S) t y es) (l : ds.length + es.length ≤ sizeLine) (q : ∀ H' z, Same H H' → SeqV K (off H' S) t z (ds ++ es) → Q z H') : rCatS' K x y H Q := by
  obtain ⟨a, xs, rfl, da, hs⟩ := d
  obtain ⟨b, ys, rfl, db, ht⟩ := e
  have lx := dpAll_len da
  have ly := dpAll_len db
  cases t with
  | true =>
    have hs : SqT K (off H S) a xs := hs
    have ht : SqT K (off H S) b ys := ht
    refine .inr ⟨a, b, xs, ys, rfl, rfl, sqt_off hs, sqt_off ht, by rw [lx, ly]; exact l, fun z => ?_, fun z z2 => ?_, fun z z2 p np => ?_⟩
    · refine q _ _ (Same.refl _) ⟨b, ys, rfl, ?_, ht⟩
      have : ds = [] := List.length_eq_zero_iff.mp (by rw [← lx, z]; rfl)
      rw [this]; exact db
    · refine q _ _ (Same.refl _) ⟨a, xs, rfl, ?_, hs⟩
      have : es = [] := List.length_eq_zero_iff.mp (by rw [← ly, z2]; rfl)
      rw [this, List.append_nil]; exact da
    · exact q _ _ (same_upd np) ⟨p, _, rfl, dpAll_same (sm_put np) (dpAll_app' da db), .inl (.inl (off_new lv np))⟩
  | false =>
    have hs : off H S a = some (.lst xs) := hs
    have ht : off H S b = some (.lst ys) := ht
    exact .inl ⟨a, b, xs, ys, rfl, rfl, at_off hs, at_off ht, by rw [lx, ly]; exact l, fun p np => q _ _ (same_upd np) ⟨p, _, rfl, dpAll_same (sm_put np) (dpAll_app' da db), off_new lv np⟩⟩
theorem ix_seqV {i : Nat} {d : PyData} (h : Dp K (off H S) x (seqD t ds)) (g : ds[i]? = some d) (q : ∀ y, Dp K (off H S) y d → Q y H) : rIxS' K x (.int (i : Nat)) H Q := by
  cases t with
  | true =>
    obtain ⟨a, xs, rfl, hs, da⟩ := dp_tup h
    have lx := dpAll_len da
    have hi : i < xs.length := by rw [lx]; exact (List.getElem?_eq_some_iff.mp g).1
    obtain ⟨d2, g2, dp⟩ := dpAll_at da (List.getElem?_eq_getElem hi)
    rw [g] at g2
    cases g2
    exact .inr ⟨a, xs, _, _, rfl, rfl, sqt_off hs, atI_nat (List.getElem?_eq_getElem hi), q _ dp⟩
  | false =>
    obtain ⟨a, xs, rfl, hs, da⟩ := dp_lst h
    have lx := dpAll_len da
    have hi : i < xs.length := by rw [lx]; exact (List.getElem?_eq_some_iff.mp g).1
    obtain ⟨d2, g2, dp⟩ := dpAll_at da (List.getElem?_eq_getElem hi)
    rw [g] at g2
    cases g2
    exact .inl ⟨a, xs, _, _, rfl, rfl, sq_off hs, atI_nat (List.getElem?_eq_getElem hi), q _ dp⟩
theorem len_seq (h : Dp K (off H S) x (seqD t ds)) : LenV K x H ds.length := by
  cases t with
  | true =>
    obtain ⟨a, xs, rfl, hs, da⟩ := dp_tup h
    rw [← dpAll_len da]
    exact .inr ⟨_, sqt_off hs, rfl⟩
  | false =>
    obtain ⟨a, xs, rfl, hs, da⟩ := dp_lst h
    rw [← dpAll_len da]
    exact .inl ⟨_, sq_off hs, rfl⟩
end
section
variable {n m C D W : Nat} {ds : List PyData}
theorem Bds.cut (h : Bds n m C D W ds) (lo hi : Option Int) : Bds n m C D W (cutL ds lo hi) := (h.drop _).take _
theorem Bd.seq {t : Bool} (h : Bd n m C D W (seqD t ds)) : Bds n m C (D - 1) W ds ∧ ds.length ≤ W := by
  obtain ⟨a, b, c, d⟩ := h.parts (seqD_or t ds)
  exact ⟨a.mono (Nat.le_refl _) (Nat.le_refl _) (Nat.sub_le _ _) (Nat.le_refl _) (Nat.le_refl _), b⟩
theorem Bds.seq {t : Bool} (h : Bds n m C D W ds) (l : ds.length ≤ W) : Bd n m (C + 3) (D + 1) W (seqD t ds) := by
  cases t
  · exact h.list l
  · exact h.tuple l
end
end Pot

namespace Pot
open PySem PySem.Spec PyProof.Rows L2
/-! ### sets of texts -/
def keyS (e : Int × Value) : Str := match e.2 with | .str k _ => k | _ => ""
def addS (ks : List Str) (k : Str) : List Str := if k ∈ ks then ks else k :: ks
/-- at a stands a set of just the texts ks, none twice -/
def SetS (P : Program) (w : World) (h : Heap) (a : Addr) (ks : List Str) : Prop := ∃ o es ep t,
  h.get? a = some o ∧ o.ExactSet ∧ o.data = .set es ep t ∧ (ElemsOf (strKind P w) es.toList ∧ (es.toList.map keyS).Perm ks ∧ ks.Nodup) ∧ es.size < scanBound ∧ t.fits es.size = true ∧ Ris t.place.toList ∧ (w.params.followText "set-order" = true ∨ t.led = true)
section
variable {P : Program} {w : World} {A : Around} {E : Value → Shared → Prop} {s : Shared} {a : Addr} {ks : List Str}
theorem SetS.at {h h' : Heap} (R : SetS P w h a ks) (k : ∀ o, h.get? a = some o → h'.get? a = some o) : SetS P w h' a ks := by
  obtain ⟨o, es, ep, t, ho, r⟩ := R
  exact ⟨o, es, ep, t, k o ho, r⟩
theorem str_is {e : Int × Value} {z : Str} (h : (∃ k, (strKind P w).is k e.2 = true ∧ e.1 = (strKind P w).hash k) ∧ e.2.scannable = true) : (strKind P w).is z e.2 = true ↔ keyS e = z := by
  obtain ⟨⟨k, h1, _⟩, _⟩ := h
  obtain ⟨t, h2⟩ := Value.isStrOf_shape h1
  unfold keyS
  rw [h2]
  constructor
  · intro h3
    exact (strKind P w).inj _ _ _ (strKind_is P w k t) h3
  · intro h3
    rw [← h3]
    exact strKind_is P w k t
theorem sets_tail {g : Bool → Sem Unit} (hg : ∀ (b : Bool) (z : Shared) (q : Unit → Shared → Prop), q () z → wpAny (model P w) A (g b) q E z)
    {o : Obj} {es : Array (Int × Value)} {ep : Nat} {t : SetTable} (ho : s.heap.get? a = some o) (hex : o.ExactSet) (hd : o.data = .set es ep t)
    {fs : Array (Int × Value)} {u : SetTable} (gg : ElemsOf (strKind P w) fs.toList ∧ (fs.toList.map keyS).Perm ks ∧ ks.Nodup)
    (hb : fs.size < scanBound) (hf : u.fits fs.size = true) (hr : Ris u.place.toList) (hl : w.params.followText "set-order" = true ∨ u.led = true) {was : Bool} {R : Option Bool → Shared → Prop}
    (hR : ∀ h', Heap.SameBut a s.heap h' → SetS P w h' a ks → R (some true) { s with heap := h' }) :
    wpAny (model P w) A (do
        storeSet a fs u
        if (!was && u.tooFull) = true then do
            g (relayAll u fs (SetTable.grown fs.size)).2.2
            storeSet a (relayAll u fs (SetTable.grown fs.size)).1 (relayAll u fs (SetTable.grown fs.size)).2.1
            pure (some true)
          else pure (some true)) R E s := by
  have o1 := store_at (es' := fs) (t' := u) ho hd
  have b1 := Heap.SameBut.update s.heap a (Obj.putSet fs u)
  refine wpAny_bind (wpAny_storeSet_of ho hd ?_ (fits_of_scanBound hb))
  by_cases hc : (!was && u.tooFull) = true
  · rw [if_pos hc]
    obtain ⟨p1, p2, p3, p4⟩ : _ ∧ _ ∧ _ ∧ _ := ⟨relayAll_perm u fs (SetTable.grown fs.size), relayAll_fits u fs (SetTable.grown fs.size), relayAll_ris u fs (SetTable.grown fs.size), relayAll_led u fs (SetTable.grown fs.size)⟩
    generalize relayAll u fs (SetTable.grown fs.size) = Y at p1 p2 p3 p4 ⊢
    obtain ⟨gs, v, x⟩ := Y
    have sz : gs.size = fs.size := by
      have := p1.length_eq
      simpa using this
    have hb2 : gs.size < scanBound := Nat.lt_of_le_of_lt (Nat.le_of_eq sz) hb
    refine wpAny_bind (hg _ _ _ (wpAny_bind (wpAny_storeSet_of o1 rfl ?_ (fits_of_scanBound hb2))))
    have o2 := store_at (es' := gs) (t' := v) o1 rfl
    refine wpAny_pure (hR _ (b1.trans (Heap.SameBut.update _ a _)) ⟨_, gs, _, v, o2, hex, rfl, ⟨fun e he => gg.1 e (p1.mem_iff.mp he), (p1.map keyS).trans gg.2.1, gg.2.2⟩, hb2, p2, p3, ?_⟩)
    rcases hl with z | z
    · exact .inl z
    · exact .inr (p4.trans z)
  · rw [if_neg hc]
    exact wpAny_pure (hR _ b1 ⟨_, fs, _, u, o1, hex, rfl, gg, hb, hf, hr, hl⟩)
theorem sets_add {k : Str} {tk : Tok} {Q : Bool → Shared → Prop} (R : SetS P w s.heap a ks) (room : ks.length + 1 < scanBound)
    (hQ : ∀ b h', Heap.SameBut a s.heap h' → SetS P w h' a (addS ks k) → Q b { s with heap := h' }) :
    wpAny (model P w) A (setAddHashed a (.str k tk) ((strKind P w).hash k)) Q E s := by
  obtain ⟨o, es, ep, t, ho, hex, hd, ⟨gel, gpm, gnd⟩, hb, hf, hr, hl⟩ := id R
  have isk : (strKind P w).is k (.str k tk) = true := strKind_is P w k tk
  have scn : (Value.str k tk).scannable = true := rfl
  unfold setAddHashed setAddHashedIn
  refine wpAny_holding (wpAny_bind (wpAny_setState_of ho hd hf ?_))
  dsimp only
  rw [byScan_of scn hb gel]
  simp only [↓reduceIte]
  unfold setAddByScan
  refine wpAny_bind (wpAny_bind (wpAny_rule (wpAny_bind (wpAny_setScan_of isk ho hd hf gel ?_))))
  cases hx : List.findIdx? (fun e => (strKind P w).is k e.2) es.toList with
  | some j =>
    dsimp only
    obtain ⟨hj, pj, _⟩ := List.findIdx?_eq_some_iff_getElem.mp hx
    have hm : k ∈ ks := gpm.mem_iff.mp (List.mem_map.mpr ⟨_, List.getElem_mem hj, (str_is (gel _ (List.getElem_mem hj))).mp pj⟩)
    refine wpAny_pure (wpAny_pure (hQ _ s.heap (Heap.SameBut.refl a s.heap) ?_))
    unfold addS
    rw [if_pos hm]
    exact R
  | none =>
    dsimp only
    have hn : k ∉ ks := fun z => by
      obtain ⟨e, he, q⟩ := List.mem_map.mp (gpm.mem_iff.mpr z)
      have c := List.findIdx?_eq_none_iff.mp hx e he
      rw [(str_is (gel e he)).mpr q] at c
      cases c
    obtain ⟨p1, p2, p3, p4⟩ : _ ∧ _ ∧ _ ∧ _ := ⟨layNew_perm t es ((strKind P w).hash k) (.str k tk), layNew_fits t es ((strKind P w).hash k) (.str k tk), layNew_ris t es ((strKind P w).hash k) (.str k tk) hr, layNew_led t es ((strKind P w).hash k) (.str k tk)⟩
    generalize layNew t es ((strKind P w).hash k) (.str k tk) = Y at p1 p2 p3 p4 ⊢
    obtain ⟨fs, u, was, gave⟩ := Y
    dsimp only at p1 p2 p3 p4 ⊢
    rw [Array.toList_push] at p1
    have pc := p1.trans (List.perm_append_singleton _ _)
    have eadd : addS ks k = k :: ks := if_neg hn
    have gg : ElemsOf (strKind P w) fs.toList ∧ (fs.toList.map keyS).Perm (addS ks k) ∧ (addS ks k).Nodup := by
      rw [eadd]
      refine ⟨fun e he => ?_, (pc.map keyS).trans (gpm.cons k), List.nodup_cons.mpr ⟨hn, gnd⟩⟩
      rcases List.mem_cons.mp (pc.mem_iff.mp he) with z | z
      · rw [z]; exact ⟨⟨k, isk, rfl⟩, scn⟩
      · exact gel e z
    have sz : fs.size = ks.length + 1 := by
      have h1 := gg.2.1.length_eq
      rw [eadd, List.length_map, Array.length_toList] at h1
      exact h1
    have hb1 : fs.size < scanBound := by rw [sz]; exact room
    have hled : w.params.followText "set-order" = true ∨ u.led = true := by
      rcases hl with z | z
      · exact .inl z
      · exact .inr (p4.trans z)
    have fin : ∀ h', Heap.SameBut a s.heap h' → SetS P w h' a (addS ks k) → Q true { s with heap := h' } := fun h' => hQ true h'
    refine wpAny_bind ?_
    have gw : ∀ (b : Bool) (z : Shared) (q : Unit → Shared → Prop), q () z → wpAny (model P w) A (match b with | true => rule "set.scan.the-table-gave-way" | false => pure ()) q E z := fun b z q hq => by
      cases b
      · exact wpAny_pure hq
      · exact wpAny_rule hq
    refine gw _ _ _ ?_
    split
    · refine wpAny_bind ?_
      rw [hashByValue_scannable 8 scn]
      refine wpAny_pure (sets_tail gw ho hex hd gg hb1 ?_ ?_ ?_ ?_)
      · first | (split <;> first | exact p2 | exact SetTable.fits_plain_off p2) | exact p2
      · first | (split <;> exact p3) | exact p3
      · first | (split <;> exact hled) | exact hled
      · intro h' sb r; dsimp only; exact wpAny_pure (fin h' sb r)
    · refine wpAny_bind (wpAny_pure ?_)
      simp only [↓reduceIte]
      refine sets_tail gw ho hex hd gg hb1 p2 p3 hled ?_
      intro h' sb r; dsimp only; exact wpAny_pure (fin h' sb r)
end
end Pot

namespace Pot
open PySem PySem.Spec PyProof.Rows L2 PySem.W PySem.Calls
/-- the texts of a row, none twice -/
def setL : List Str → List Str := List.foldl addS []
section
variable {P : Program} {w : World} {A : Around} {E : Value → Shared → Prop} {s : Shared}
theorem addS_len (ks : List Str) (k : Str) : (addS ks k).length ≤ ks.length + 1 := by
  unfold addS; split
  · omega
  · exact Nat.le_refl _
theorem setL_take {zs : List Str} {i : Nat} {z : Str} (h : zs[i]? = some z) : setL (zs.take (i + 1)) = addS (setL (zs.take i)) z := by
  unfold setL
  rw [List.take_add_one, h, List.foldl_append]; rfl
theorem fold_len (zs ks : List Str) : (List.foldl addS ks zs).length ≤ ks.length + zs.length := by
  induction zs generalizing ks with
  | nil => exact Nat.le_refl _
  | cons z zs ih =>
    have h1 := ih (addS ks z)
    have h2 := addS_len ks z
    simp only [List.foldl_cons, List.length_cons]
    omega
theorem setL_len (zs : List Str) : (setL zs).length ≤ zs.length := by have := fold_len zs []; simpa [setL] using this
theorem mem_addS {ks : List Str} {k x : Str} : x ∈ addS ks k ↔ x ∈ ks ∨ x = k := by
  unfold addS
  split
  · rename_i h
    exact ⟨.inl, fun z => z.elim id fun e => e ▸ h⟩
  · rw [List.mem_cons]; exact Or.comm
theorem mem_fold {x : Str} (zs : List Str) : ∀ ks : List Str, x ∈ List.foldl addS ks zs ↔ x ∈ ks ∨ x ∈ zs := by
  induction zs with
  | nil => intro ks; simp
  | cons z zs ih =>
    intro ks
    rw [List.foldl_cons, ih, mem_addS, List.mem_cons, or_assoc]
theorem mem_setL {x : Str} {zs : List Str} : x ∈ setL zs ↔ x ∈ zs := by
  have := mem_fold (x := x) zs []
  simpa [setL] using this
/-- set.update's loop over texts -/
theorem sets_loop {I : Addr} {fp wr : List Addr} {G : Array GenState → Array GenState → Prop} {n : Nat} {Pv : Nat → Value → Prop} {St : Nat → Shared → Prop} {R : Result → Shared → Prop}
    (W : WalksS P w A.in1 I fp wr G n Pv St) (S : Addr) (nf : S ∉ fp) (zs : List Str) (en : n = zs.length) (lb : zs.length + 1 < scanBound) (each : ∀ i v, Pv i v → ∃ z t, zs[i]? = some z ∧ v = .str z t) :
    ∀ (m i : Nat) (z : Shared), n - i = m → i ≤ n → St i z → SetS P w z.heap S (setL (zs.take i)) →
      (∀ z', Moved (S :: wr) G z z' → SetS P w z'.heap S (setL zs) → R (.ok (.ret .none)) z') →
      codeAny (model P w) A (.builtin "set.update.loop" ⟨[.ref S, .ref I], []⟩) R z := by
  have nw : S ∉ wr := fun h => nf (W.sub _ h)
  have up : ∀ b ∈ wr, b ∈ S :: wr := fun b hb => List.mem_cons_of_mem _ hb
  intro m
  induction m with
  | zero =>
    intro i z e1 e2 st hS hR
    obtain rfl : i = n := by omega
    refine codeAny_builtin F.entry_set_update_loop ?_
    rw [Around.under_plainId F.plain_set_update_loop _]
    show wpAny _ A.in1 (pyNext (.ref I) >>= _) _ _ z
    refine wpAny_bind (W.done z _ _ st fun z' mv => ?_)
    show wpAny _ A.in1 (ret Value.none) _ _ z'
    rw [List.take_of_length_le (show zs.length ≤ i by omega)] at hS
    exact wpAny_pure (hR z' (mv.mono up) (hS.at fun o e => mv.heap S o nw e))
  | succ m ih =>
    intro i z e1 e2 st hS hR
    have lt : i < n := by omega
    refine codeAny_builtin F.entry_set_update_loop ?_
    rw [Around.under_plainId F.plain_set_update_loop _]
    show wpAny _ A.in1 (pyNext (.ref I) >>= _) _ _ z
    refine wpAny_bind (W.item i z _ _ lt st fun v z' pv st' mv => ?_)
    obtain ⟨y, t, hy, rfl⟩ := each i v pv
    have hS' : SetS P w z'.heap S (setL (zs.take i)) := hS.at fun o e => mv.heap S o nw e
    show wpAny _ A.in1 (holding [Value.str y t] (setAdd S (.str y t)) >>= _) _ _ z'
    refine wpAny_bind (wpAny_holding ?_)
    unfold setAdd
    refine wpAny_holding (wpAny_bind ((strKind P w).pyHash (k := y) (strKind_is _ _ _ _) ?_))
    have len : (setL (zs.take i)).length + 1 < scanBound := by
      have h1 := setL_len (zs.take i)
      rw [List.length_take] at h1
      omega
    refine sets_add (s := { z' with toks := z'.toks + 1 }) hS' len fun b h' sb hS2 => ?_
    rw [← setL_take hy] at hS2
    refine wpAny_pure ⟨plainId_quiet F.plain_set_update_loop _, ih (i + 1) _ (by omega) lt (W.frame _ z' _ _ st' (Nat.le_succ _) fun b hb o e => ?_) hS2 fun z'' mv2 hS3 => ?_⟩
    · exact (sb.2 b fun h => nf (h ▸ hb)).trans e
    · refine hR z'' (Moved.trans W.gtrans ((mv.mono up).then_heap (Nat.le_succ _) fun b o hb e => ?_) mv2) hS3
      exact (sb.2 b fun h => hb (h ▸ List.mem_cons_self)).trans e
/-- what is wanted behind the filling -/
def FilledS (P : Program) (w : World) (s : Shared) (zs : List Str) (s' : Shared) : Prop := ∃ h' tk, s' = { s with heap := h', toks := tk } ∧ SetS P w h' s.heap.objs.size (setL zs) ∧ ∀ b o, s.heap.get? b = some o → h'.get? b = some o
theorem sets_new {h : Heap} {a : Addr} (ho : h.get? a = some (emptySet w)) : SetS P w h a [] := by
  refine ⟨_, #[], 0, _, ho, ⟨rfl, rfl, rfl⟩, rfl, ⟨fun e he => by simp at he, List.Perm.nil, List.nodup_nil⟩, by decide, rfl, List.Pairwise.nil, ?_⟩
  show _ ∨ (!w.params.followText "set-order") = true
  cases w.params.followText "set-order"
  · exact .inr rfl
  · exact .inl rfl
set_option maxHeartbeats 4000000 in
theorem call_set_ls {l : Addr} {items : Array Value} (zs : List Str) {Q : Value → Shared → Prop} (hh : A.handled = none) (hl : s.heap.IsList l items) (hit : StrsAre items.toList zs) (hb : zs.length + 1 < scanBound)
    (hq : ∀ s', FilledS P w s zs s' → Q (.ref s.heap.objs.size) s') : wpAny (model P w) A (call (.type "set") [.ref l]) Q E s := by
  have size : items.size = zs.length := by
    rw [← Array.length_toList]; exact StrsAre.length hit
  have made := F.called_set.made
  have below := F.called_set.sub
  obtain ⟨_, _, chain⟩ := F.called_set.mro
  have nt := F.called_set.notType
  have cc := F.called_set.canCreate
  have ck := F.typeCall_set_1 (.ref l)
  refine wpAny_call (codeAny_of_tree (show wpAny _ _ (callAny (.type "set") _) _ _ _ from wpAny_pure ⟨Code.quiet_builtin _ (by decide +kernel), codeAny_builtin F.entry_type_call ?_⟩))
  rw [Around.under_plain (weight_type_call_type "set" [.ref l] []) rfl]
  repeat (any_goals (first | assumption | wp_step))
  refine codeAny_mono (code_set_led1 (.ref l) (E := E) (Q₁ := fun obj z => obj = .ref s.heap.objs.size ∧ z = { s with heap := s.heap.push (emptySet w) }) ⟨rfl, rfl⟩) fun r z hr => ?_
  rcases r with _ | fl
  case error => exact hr
  cases fl <;> first | exact hr.elim | skip
  obtain ⟨rfl, rfl⟩ := hr
  have at0 : (s.heap.push (emptySet w)).get? s.heap.objs.size = some (emptySet w) := Heap.get?_push_size _ rfl
  have ty0 : Shared.TypeIs { s with heap := s.heap.push (emptySet w) } (.ref s.heap.objs.size) "set" := ⟨_, at0, rfl⟩
  have li := F.called_set.init.lookup
  have bi := F.called_set.init.bind (.ref s.heap.objs.size)
  repeat (any_goals (first | assumption | wp_step))
  refine codeAny_mono (codeAny_call_builtin (R := wants (fun r z => r = .none ∧ FilledS P w s zs z) E) F.called_set.init.plain F.entry_set_init (check_set_init_1 ty0 ?_)) fun r z hz => ?_
  · obtain ⟨⟨_, od, _, os⟩, hol, hcl, nl, hdl⟩ := hl
    simp only at hcl hdl
    subst hcl
    subst hdl
    have keep : (s.heap.push (emptySet w)).get? l = some { cls := .type "list", dict := od, data := .seq items nl, slots := os } := Heap.get?_push_of_some _ hol
    have s1 := F.sub_list_set
    have s2 := F.sub_list_frozenset
    have s3 : (Value.type "list" == Value.type "dict") = false := by decide
    have isl : (s.heap.push (emptySet w)).IsList l items := ⟨_, keep, rfl, nl, rfl⟩
    unfold Builtin.«set.__init__» noKeywords Builtin.Frozenset.updateFrom
    generalize hPI : pyIter = PI
    wp_walk
    subst hPI
    refine wpAny_pyIter_list isl (wpAny_bind (wpAny_runValue ?_))
    have lt : l < s.heap.objs.size := Heap.lt_size hol
    have sz : (s.heap.push (emptySet w)).objs.size = s.heap.objs.size + 1 := Heap.size_push ..
    have ne1 : l ≠ (s.heap.push (emptySet w)).objs.size := by rw [sz]; exact Nat.ne_of_lt (Nat.lt_succ_of_lt lt)
    have ne2 : s.heap.objs.size ∉ [(s.heap.push (emptySet w)).objs.size, l] := by
      rw [sz]
      intro z
      rcases List.mem_cons.mp z with z | z
      · exact absurd z (Nat.ne_of_lt (Nat.lt_succ_self _))
      · exact absurd (List.mem_singleton.mp z) (Nat.ne_of_gt lt)
    have each : ∀ (i : Nat) (v : Value), items[i]? = some v → ∃ k t, zs[i]? = some k ∧ v = .str k t := fun i v hv => by
      have h1 : items.toList[i]? = some v := by rw [Array.getElem?_toList]; exact hv
      clear hv size isl keep hol hb hq
      generalize items.toList = L at hit h1
      induction hit generalizing i with
      | nil => simp at h1
      | cons k t hr ih =>
        cases i with
        | zero => exact ⟨k, t, rfl, by simpa using h1.symm⟩
        | succ i => exact ih i (by simpa using h1)
    refine sets_loop ((Walks.list (show A.in1.in1.in1.handled = none by simp [hh]) _ l ne1 items).toS) s.heap.objs.size ne2 zs size hb each (items.size - 0) 0 _ (by omega) (Nat.zero_le _) ⟨⟨_, Heap.get?_push_size _ rfl, rfl, rfl⟩, isl.push _⟩ (sets_new (Heap.get?_push_of_some _ at0)) fun s' hm hS => ?_
    obtain ⟨h', g, d, tk, o⟩ := s'
    cases (show g = s.gens from hm.gens)
    cases (show d = s.drawn from hm.drawn)
    cases (show o = s.os from hm.os)
    refine (show wpAny _ _ _ _ _ _ from wpAny_pure (show wpAny _ _ (ret Value.none) _ _ _ from wpAny_pure ⟨rfl, h', tk, rfl, hS, fun b o e => ?_⟩))
    have hb0 : b < s.heap.objs.size := Heap.lt_size e
    refine hm.heap b o (fun z => ?_) (Heap.get?_push_of_some _ (Heap.get?_push_of_some _ e))
    rcases List.mem_cons.mp z with z | z
    · exact absurd z (Nat.ne_of_lt hb0)
    · exact absurd ((List.mem_singleton.mp z).trans sz) (Nat.ne_of_lt (Nat.lt_succ_of_lt hb0))
  · rcases r with _ | fl
    case error => exact hz
    cases fl <;> first | exact hz.elim | skip
    obtain ⟨rfl, f⟩ := hz
    obtain ⟨h', tk, rfl, hS, k⟩ := id f
    repeat (any_goals (first | assumption | wp_step))
    exact hq _ ⟨_, _, rfl, hS, k⟩
/-- sorted of a set of texts -/
theorem sorted_sets {a : Addr} {ks : List Str} {Q : Value → Shared → Prop} (R : SetS P w s.heap a ks) (hh : A.handled = none) (hn4 : ks.length < 64)
    (hQ : ∀ s' p (out : Array Value) (c : Nat) (ys : List Str), (∀ b o, s.heap.get? b = some o → s'.heap.get? b = some o) → s'.gens = s.gens → s'.os = s.os → s.heap.objs.size ≤ p →
      s'.heap.get? p = some (seqObj "list" out c) → StrsAre out.toList ys → ys.Perm ks → sortedS ys = true → Q (.ref p) s') :
    wpAny (model P w) A (call (.builtin "sorted") [.ref a]) Q E s := by
  obtain ⟨o, es, ep, t, ho, hex, hd, ⟨gel, gpm, gnd⟩, hb, hf, hr, hl⟩ := R
  refine Calls.call_function_entry kind_sorted plain_sorted entry_sorted (args_sorted1 _) ?_
  unfold Builtin.«sorted»
  refine wpAny_bind (m := checkCount "sorted" 1 1 _) (wpAny_pure ?_)
  refine wpAny_bind (collect_set (A := A.in1) hh ⟨o, ho, hex.1, hd⟩ hf hb hr hl fun s1 vs k1 hz g1 o1 pm => ?_)
  have sl : ∀ l : List Value, (∀ v ∈ l, ∃ e : Int × Value, e ∈ es.toList ∧ e.2 = v) → StrsAre l (l.map fun v => keyS (0, v)) := by
    intro l
    induction l with
    | nil => intro _; exact .nil
    | cons v l ih =>
      intro h
      obtain ⟨e, he, rfl⟩ := h v List.mem_cons_self
      obtain ⟨⟨k, h1, _⟩, _⟩ := gel e he
      obtain ⟨tk, h2⟩ := Value.isStrOf_shape h1
      rw [h2]
      exact .cons k tk (ih fun u hu => h u (List.mem_cons_of_mem _ hu))
  have hv : StrsAre vs (vs.map fun v => keyS (0, v)) := sl vs fun v hv => by
    obtain ⟨e, he, rfl⟩ := List.mem_map.mp (pm.mem_iff.mp hv)
    exact ⟨e, he, rfl⟩
  have pk : (vs.map fun v => keyS (0, v)).Perm ks := by
    have h1 := pm.map fun v => keyS (0, v)
    rw [List.map_map] at h1
    exact h1.trans gpm
  have lv : vs.length = ks.length := by have := pk.length_eq; rw [List.length_map] at this; exact this
  have ls : vs.length ≤ sizeLine := by rw [lv, sizeLine_eq]; omega
  refine wpAny_bind (wpAny_newList ?_ ls)
  have hL : (s1.heap.push (seqObj "list" vs.toArray 0)).get? s1.heap.objs.size = some (seqObj "list" vs.toArray 0) := Heap.get?_push_size _ rfl
  refine wpAny_bind (wpAny_holding (wpAny_call_entry slot_list_sort ⟨_, hL, rfl⟩ entry_list_sort (list_sort_treeK strKind_oneLt hL hv.keysOf (fun v₁ v₂ rest e => keyKind_strs (by rw [← e]; exact hv)) (by rw [lv]; exact hn4) fun st' hp hs => ⟨_, rfl, ?_⟩) (args_list_sort _)))
  obtain ⟨ys, a1, a2, a3⟩ := sorted_out_str hv hp hs
  obtain ⟨c, hc⟩ := sortedHeap_at (vs := vs) (out := (arrOf st').map (·.2)) hL
  refine wpAny_pure ⟨_, rfl, hQ _ s1.heap.objs.size _ c ys (fun b u e => ?_) g1 o1 hz hc a1 (a2.trans pk) a3⟩
  have h1 := k1 b u e
  have hlt := Heap.lt_size h1
  show (sortedHeap (s1.heap.push (seqObj "list" vs.toArray 0)) s1.heap.objs.size vs _).get? b = some u
  rw [sortedHeap_old (Nat.ne_of_lt hlt) (by rw [size_push']; exact Nat.lt_succ_of_lt hlt)]
  exact Heap.get?_push_of_some _ h1
end
section
variable {X : Cx} {K : PySem.W.Frag}
def SetSO (P : Program) (w : World) (a : Addr) (ks : List Str) : HO := .ext fun h => SetS P w h a ks
theorem setS_new {P : Program} {w : World} {H : Hp} {h : Heap} {a : Addr} {ks : List Str} (R : SetS P w h a ks) : ObjOk P w H h a (SetSO P w a ks) := by
  have R0 := R
  obtain ⟨o, _, _, _, ho, _⟩ := R
  exact ⟨R0, ⟨o, ho⟩, fun h1 h2 R k => SetS.at R k⟩
/-- set(xs) of texts -/
def rSetLs (K : PySem.W.Frag) (P : Program) (w : World) : List V → Hp → VK → Prop := fun xs H Q => ∃ (a : Addr) (zs : List Str), xs = [V.ref a] ∧ SqL K H a (zs.map V.str) ∧ zs.length ≤ 1000 ∧
  ∀ (p : Addr), H p = none → Q (.ref p) (upd H p (SetSO P w p (setL zs)))
theorem cr_setLs (hc : X.calm = true) : CallR X (.type "set") (rSetLs X.K X.prog X.w) := by
  intro pins s σ H vs us Q I r h
  obtain ⟨a, zs, rfl, hS, hl, q⟩ := h
  rw [Vals.ref1 r]
  obtain ⟨its, rv, pl, hz⟩ := I.list hS
  refine call_set_ls zs (I.ok.hd hc) pl.isList (by simpa using Vals.strs rv) (by unfold scanBound; omega) fun s' f => ?_
  obtain ⟨h', tk, rfl, R, k⟩ := f
  have hn : H s.heap.objs.size = none := I.hok.fresh (Nat.le_refl _)
  exact ⟨.ref s.heap.objs.size, _, I.laid (t' := tk) k (Nat.le_refl _) (setS_new R), rfl, q _ hn⟩
theorem kc_setLs {P : Program} {w : World} (hc : X.calm = true := by rfl) (h : X.K = K := by rfl) (hp : X.prog = P := by rfl) (hw : X.w = w := by rfl) : CallR X (.type "set") (rSetLs K P w) := by subst h; subst hw; subst hp; exact cr_setLs hc
def rSortedSs (P : Program) (w : World) : List V → Hp → VK → Prop := fun vs H Q => ∃ (a : Addr) (ks : List Str), vs = [V.ref a] ∧ H a = some (SetSO P w a ks) ∧ ks.length < 64 ∧
  ∀ (ys : List Str) (p : Addr), ys.Perm ks → sortedS ys = true → H p = none → Q (.ref p) (upd H p (.lst (ys.map V.str)))
theorem cr_sortedSs (hc : X.calm = true) : CallR X (.builtin "sorted") (rSortedSs X.prog X.w) := by
  intro pins s σ H vs us Q I r h
  obtain ⟨a, ks, rfl, ha, h4, q⟩ := h
  rw [Vals.ref1 r]
  refine sorted_sets ((I.hok a _ ha).1) (I.ok.hd hc) h4 fun s' p out c ys k g o hp hg hi hs hl => ?_
  have hlen : (ys.map V.str).length ≤ sizeLine := by rw [List.length_map, hs.length_eq, sizeLine_eq]; omega
  have hn : H p = none := I.hok.fresh hp
  have J : Inv X pins σ (upd H p (.lst (ys.map V.str))) { s with heap := s'.heap, gens := s'.gens, drawn := s'.drawn, toks := s'.toks } :=
    I.call (ch := []) (Un.laid k hp hn) (I.hok.laid k hp ⟨hlen, out.toList, c, vals_of_strs hi, hg⟩) (by rw [g]; exact I.bare) (fun _ z => nomatch z)
  have e : s' = { s with heap := s'.heap, gens := s'.gens, drawn := s'.drawn, toks := s'.toks } := by
    cases s'; cases s; cases o; rfl
  rw [e]
  exact ⟨.ref p, _, J, rfl, q ys p hs hl hn⟩
theorem kc_sortedSs {P : Program} {w : World} (hc : X.calm = true := by rfl) (hp : X.prog = P := by rfl) (hw : X.w = w := by rfl) : CallR X (.builtin "sorted") (rSortedSs P w) := by subst hw; subst hp; exact cr_sortedSs hc
end
end Pot

namespace Pot
open PySem PySem.Spec PyProof.Rows L2
/-! ### texts in order -/
abbrev sLt (a b : Str) : Prop := a.cps.toList < b.cps.toList
theorem str_ext {a b : Str} (h : a.cps.toList = b.cps.toList) : a = b := by
  cases a; cases b
  simp only at h
  rw [Array.toList_inj.mp h]
theorem ltC_iff : ∀ {a b : List Nat}, ltCps a b = true ↔ a < b
  | [], [] => by simp [ltCps]
  | [], _ :: _ => by simp [ltCps]
  | _ :: _, [] => by simp [ltCps]
  | a :: r, b :: t => by
    rw [List.cons_lt_cons_iff, ← ltC_iff (a := r) (b := t)]
    simp [ltCps]
theorem sLt_irrefl (a : Str) : ¬ sLt a a := List.lt_irrefl _
theorem sLt_trans {a b c : Str} (h : sLt a b) (k : sLt b c) : sLt a c := List.lt_trans h k
def rbS : List Str → List Bool
  | a :: b :: r => decide (sLt a b) :: rbS (b :: r)
  | _ => []
def risS (zs : List Str) : Bool := (rbS zs).all id
theorem risS_pair : ∀ {zs : List Str}, risS zs = true ↔ zs.Pairwise sLt
  | [] => by simp [risS, rbS]
  | [a] => by simp [risS, rbS]
  | a :: b :: r => by
    have ih := risS_pair (zs := b :: r)
    show (decide (sLt a b) && risS (b :: r)) = true ↔ _
    rw [Bool.and_eq_true_iff, decide_eq_true_eq, ih]
    constructor
    · rintro ⟨h1, h2⟩
      refine List.pairwise_cons.mpr ⟨fun x hx => ?_, h2⟩
      rcases List.mem_cons.mp hx with e | e
      · rw [e]; exact h1
      · exact sLt_trans h1 ((List.pairwise_cons.mp h2).1 x e)
    · intro h
      obtain ⟨h1, h2⟩ := List.pairwise_cons.mp h
      exact ⟨h1 b List.mem_cons_self, h2⟩
theorem rbS_len : ∀ ns : List Str, (rbS ns).length = ns.length - 1
  | [] => rfl
  | [_] => rfl
  | a :: b :: r => by show (rbS (b :: r)).length + 1 = _; rw [rbS_len (b :: r)]; simp
theorem rbS_at : ∀ {ns : List Str} {i : Nat} {x y : Str}, ns[i]? = some x → ns[i + 1]? = some y → (rbS ns)[i]? = some (decide (sLt x y))
  | [], _, _, _, h, _ => by simp at h
  | [_], i, _, _, _, h => by simp at h
  | a :: b :: r, 0, x, y, h, k => by
    have e1 : a = x := by simpa using h
    have e2 : b = y := by simpa using k
    subst e1 e2; rfl
  | a :: b :: r, i + 1, x, y, h, k => rbS_at (ns := b :: r) (i := i) (by simpa using h) (by simpa using k)
theorem sLt_of {a b : Str} (h : ¬ sLt b a) (n : a ≠ b) : sLt a b := by
  rcases Decidable.em (sLt a b) with z | z
  · exact z
  · exact absurd (str_ext (List.le_antisymm (show a.cps.toList ≤ b.cps.toList from h) (show b.cps.toList ≤ a.cps.toList from z))) n
theorem sorted_lt : ∀ {ys : List Str}, sortedS ys = true → ys.Nodup → ys.Pairwise sLt := by
  have go : ∀ (r : List Str) (p : Str), risingS p r = true → (p :: r).Nodup → (p :: r).Pairwise sLt := by
    intro r
    induction r with
    | nil => intro p _ _; simp
    | cons x r ih =>
      intro p h n
      have h' : (!ltCps x.cps.toList p.cps.toList && risingS x r) = true := h
      obtain ⟨h1, h2⟩ := Bool.and_eq_true_iff.mp h'
      obtain ⟨n1, n2⟩ := List.nodup_cons.mp n
      have px := ih x h2 n2
      have lt : sLt p x := sLt_of (fun z => by rw [ltC_iff.mpr z] at h1; cases h1) (fun z => n1 (by rw [z]; exact List.mem_cons_self))
      refine List.pairwise_cons.mpr ⟨fun y hy => ?_, px⟩
      rcases List.mem_cons.mp hy with e | e
      · rw [e]; exact lt
      · exact sLt_trans lt ((List.pairwise_cons.mp px).1 y e)
  intro ys h n
  cases ys with
  | nil => simp
  | cons x r => exact go r x h n
theorem lt_nodup {ys : List Str} (h : ys.Pairwise sLt) : ys.Nodup := h.imp fun {a b} z => fun (e : a = b) => sLt_irrefl b (by rw [e] at z; exact z)
theorem sorted_uniqS : ∀ {xs ys : List Str}, xs.Pairwise sLt → ys.Pairwise sLt → (∀ k, k ∈ xs ↔ k ∈ ys) → xs = ys
  | [], [], _, _, _ => rfl
  | [], y :: ys, _, _, h => by have := (h y).mpr List.mem_cons_self; simp at this
  | x :: xs, [], _, _, h => by have := (h x).mp List.mem_cons_self; simp at this
  | x :: xs, y :: ys, h1, h2, h => by
    rw [List.pairwise_cons] at h1 h2
    have e : x = y := by
      rcases List.mem_cons.mp ((h x).mp List.mem_cons_self) with e | e
      · exact e
      · rcases List.mem_cons.mp ((h y).mpr List.mem_cons_self) with e2 | e2
        · exact e2.symm
        · exact absurd (sLt_trans (h2.1 x e) (h1.1 y e2)) (sLt_irrefl _)
    subst e
    have : xs = ys := sorted_uniqS h1.2 h2.2 fun k => by
      constructor
      · intro hk
        rcases List.mem_cons.mp ((h k).mp (List.mem_cons_of_mem _ hk)) with e | e
        · exact absurd (e ▸ h1.1 k hk) (sLt_irrefl _)
        · exact e
      · intro hk
        rcases List.mem_cons.mp ((h k).mpr (List.mem_cons_of_mem _ hk)) with e | e
        · exact absurd (e ▸ h2.1 k hk) (sLt_irrefl _)
        · exact e
    rw [this]
theorem nodup_addS {ks : List Str} {k : Str} (h : ks.Nodup) : (addS ks k).Nodup := by
  unfold addS
  split
  · exact h
  · rename_i hn; exact List.nodup_cons.mpr ⟨hn, h⟩
theorem nodup_setL (zs : List Str) : (setL zs).Nodup := by
  have : ∀ (zs ks : List Str), ks.Nodup → (List.foldl addS ks zs).Nodup := by
    intro zs
    induction zs with
    | nil => intro ks h; exact h
    | cons z zs ih => intro ks h; exact ih _ (nodup_addS h)
  exact this zs [] List.nodup_nil
/-- things == sorted(set(things)): just where they rise -/
theorem eq_sortedS {ns ys : List Str} (p : ys.Perm (setL ns)) (h : sortedS ys = true) : decide (ns = ys) = risS ns := by
  have pw := sorted_lt h (p.nodup_iff.mpr (nodup_setL ns))
  by_cases e : ns = ys
  · rw [decide_eq_true e, e]; exact (risS_pair.mpr pw).symm
  · rw [decide_eq_false e]
    cases hr : risS ns with
    | false => rfl
    | true => exact absurd (sorted_uniqS (risS_pair.mp hr) pw fun k => by rw [p.mem_iff, mem_setL]) e
theorem eqv_strs : ∀ xs ys : List Str, PyData.eqv (.list (xs.map PyData.str)) (.list (ys.map PyData.str)) = decide (xs = ys)
  | [], [] => rfl
  | [], _ :: _ => rfl
  | _ :: _, [] => rfl
  | x :: xs, y :: ys => by
    have ih := eqv_strs xs ys
    show (PyData.eqv (.str x) (.str y) && PyData.eqvAll (xs.map PyData.str) (ys.map PyData.str)) = _
    rw [show PyData.eqvAll (xs.map PyData.str) (ys.map PyData.str) = decide (xs = ys) from ih]
    show ((x == y) && _) = _
    by_cases h : x = y
    · subst h; simp
    · simp [h]
/-- strip of all these signs leaves nothing: just where there is none but them -/
theorem strip_nil (x y : Str) : decide (V.str (Txt.stripChars x y) = V.str "") = x.cps.toList.all fun c => decide (c ∈ y.cps.toList) := by
  have eg : (y.cps.contains : Nat → Bool) = fun c => decide (c ∈ y.cps.toList) := by
    funext c
    rw [Bool.eq_iff_iff, Array.contains_iff, decide_eq_true_eq, Array.mem_toList_iff]
  rw [Bool.eq_iff_iff, decide_eq_true_eq, List.all_eq_true]
  have hb : Txt.stripChars x y = Builtin.Str.strSub x (stripLo (fun c => decide (c ∈ y.cps.toList)) true x) (stripHi (fun c => decide (c ∈ y.cps.toList)) true x (stripLo (fun c => decide (c ∈ y.cps.toList)) true x)) := by
    unfold Txt.stripChars
    rw [stripBy_eq, eg]
  generalize hg : (fun c => decide (c ∈ y.cps.toList)) = g at hb
  obtain ⟨a1, a2, a3⟩ := lo_facts g x
  obtain ⟨b1, b2, b3, b4⟩ := hi_facts g x _ a1
  have gl : ∀ k (h : k < x.cps.size), x.cps.getD k 0 = x.cps[k] := fun k h => by simp [Array.getD, h]
  constructor
  · intro h c hc
    have h := V.str.inj h
    rw [hb] at h
    have hl : stripHi g true x (stripLo g true x) ≤ stripLo g true x := by
      have h2 : (x.cps.extract (stripLo g true x) (stripHi g true x (stripLo g true x))).size = 0 := by
        have := congrArg (fun s : Str => s.cps.size) h
        exact this
      rw [Array.size_extract] at h2
      have : x.cps.size = x.length := rfl
      omega
    obtain ⟨k, hk, e⟩ := List.mem_iff_getElem.mp hc
    rw [Array.getElem_toList] at e
    rw [Array.length_toList] at hk
    have key : g (x.cps.getD k 0) = true := by
      rcases Nat.lt_or_ge k (stripLo g true x) with z | z
      · exact a2 k z
      · exact b3 k (by omega) hk
    rw [gl k hk, e, ← hg] at key
    exact key
  · intro h
    refine congrArg V.str ?_
    rw [hb]
    have hl : stripLo g true x = x.length := by
      rcases a3 with z | z
      · exact z
      · rcases Nat.lt_or_ge (stripLo g true x) x.cps.size with q | q
        · rw [gl _ q] at z
          have := h _ (Array.getElem_mem_toList q)
          have hgx : ∀ c, g c = decide (c ∈ y.cps.toList) := fun c => by rw [← hg]
          rw [hgx, this] at z
          cases z
        · exact Nat.le_antisymm a1 q
    rw [hl] at b1 b2 ⊢
    have : stripHi g true x x.length = x.length := by omega
    rw [this]
    refine str_ext ?_
    show (x.cps.extract x.length x.length).toList = ("" : Str).cps.toList
    simp [Str.length]
    rfl
end Pot

namespace Pot
open PySem PySem.Spec PyProof.Rows L2
/-! ### sums of numbers and truths -/
def nB : V → Option Int
  | .int i => some i
  | .bl b => some (if b = true then 1 else 0)
  | _ => none
section
variable {X : Cx}
def rNL (g : Int → Int → V) : R2 := fun x y H Q => ∃ i j, nB x = some i ∧ y = .int j ∧ Q (g i j) H
def rNR (g : Int → Int → V) : R2 := fun x y H Q => ∃ i j, x = .int i ∧ nB y = some j ∧ Q (g i j) H
theorem op_addB : OpR X (binaryOp .Add) (rNL fun i j => .int (i + j)) := by
  intro pins s σ H x y v u Q I rx ry h
  obtain ⟨i, j, hx, rfl, q⟩ := h
  obtain ⟨t, rfl⟩ := ry
  cases x with
  | int k =>
    obtain ⟨t2, rfl⟩ := rx
    cases hx
    exact add_int ⟨.int _, H, I.tok _, ⟨_, rfl⟩, q⟩
  | bl b =>
    cases rx
    cases hx
    exact PySem.IntBool.add_bool_int ⟨.int _, H, I.tok _, ⟨_, rfl⟩, q⟩
  | _ => cases hx
theorem op_subB : OpR X (binaryOp .Sub) (rNL fun i j => .int (i - j)) := by
  intro pins s σ H x y v u Q I rx ry h
  obtain ⟨i, j, hx, rfl, q⟩ := h
  obtain ⟨t, rfl⟩ := ry
  cases x with
  | int k =>
    obtain ⟨t2, rfl⟩ := rx
    cases hx
    exact sub_int ⟨.int _, H, I.tok _, ⟨_, rfl⟩, q⟩
  | bl b =>
    cases rx
    cases hx
    exact PySem.IntBool.sub_bool_int ⟨.int _, H, I.tok _, ⟨_, rfl⟩, q⟩
  | _ => cases hx
theorem op_subR : OpR X (binaryOp .Sub) (rNR fun i j => .int (i - j)) := by
  intro pins s σ H x y v u Q I rx ry h
  obtain ⟨i, j, rfl, hy, q⟩ := h
  obtain ⟨t, rfl⟩ := rx
  cases y with
  | int k =>
    obtain ⟨t2, rfl⟩ := ry
    cases hy
    exact sub_int ⟨.int _, H, I.tok _, ⟨_, rfl⟩, q⟩
  | bl b =>
    cases ry
    cases hy
    exact PySem.IntBool.sub_int_bool ⟨.int _, H, I.tok _, ⟨_, rfl⟩, q⟩
  | _ => cases hy
/-- the text of a number or a truth -/
def tNB : V → Str
  | .int i => Str.ofString (toString i)
  | .bl b => if b then "True" else "False"
  | _ => ""
theorem call_strB : CallR X (.type "str") (fun xs H Q => ∃ x i, xs = [x] ∧ nB x = some i ∧ i.natAbs.log2 < 1920 ∧ Q (.str (tNB x)) H) := by
  intro pins s σ H xs us Q I r h
  obtain ⟨x, i, rfl, hx, hz, q⟩ := h
  obtain ⟨u, rfl, rx⟩ := vals1 r
  cases x with
  | int k =>
    obtain ⟨t, rfl⟩ := rx
    cases hx
    exact PySem.P.str_of_int hz ⟨.str _, H, I.tok _, ⟨_, rfl⟩, q⟩
  | bl b =>
    cases rx
    cases hx
    exact PySem.P.str_of_bool ⟨.str _, H, I.tok _, ⟨_, rfl⟩, q⟩
  | _ => cases hx
end
end Pot

namespace Pot
open PySem PySem.Spec PyProof.Rows L2
def topS (i : Nat) : Stmt := PySem.Challenge.pw_potround_k02_what_kinds_are.main.body.getD i (.Pass ⟨0, 0, 0, 0⟩)
section
variable {P : Program} {w : World} {K : PySem.W.Frag} {mg : Str → Option Value} {base : Heap}
theorem Cl.imp {k : Nat} {x : Str} {sp sp' : Sp} (c : Cl P w K mg base k x sp) (h : ∀ vs H Q E, sp' vs H Q E → sp vs H Q E) : Cl P w K mg base k x sp' := by
  obtain ⟨f, fd, ps, G, r⟩ := c
  exact ⟨f, fd, ps, G.imp h, r⟩
abbrev s__law_take : Stmt := topS 11
def n__law_take : List Str := ["_law_state", "_law_many", "_law_turn", "_law_place", "_law_cell", "_law_digit", "_law_mixed"]
theorem sc__law_take : FnScope n__law_take ["_law_state", "_law_many"] (defScope s__law_take) := ⟨rfl, rfl, rfl, by decide +kernel, rfl, by decide +kernel, by decide +kernel⟩
/-! ### _law_take -/
def spTake : Sp := fun vs H Q _ => ∃ (d c : Addr) (m : Int) (n : Nat), vs = [.ref d, .int m] ∧ 0 < m ∧ m < 1073741824 ∧ StAt H d c n ∧ n < 2 ^ 40 ∧
  ∀ H' r, 0 ≤ r → r < m → StAt H' d c (n + 1) → Sm [d, c] H H' → Q (.int r) H'
theorem ok_take {f : Addr} {fd : FuncData} {k : Nat} (F : Fun K "_law_take" "_law_take" s__law_take f fd) (T : Txt mg) :
    FnOk P w K mg base CX0 (k + 1) f fd ["_law_state", "_law_many"] spTake := by
  refine F.ok sc__law_take (fun vs H Q E h => ?_) (fun cdv A outer s H vs Q E hr h => ?_)
  · obtain ⟨d, c, m, n, rfl, _⟩ := h
    rfl
  · obtain ⟨d, c, m, n, rfl, hm0, hm1, ⟨ndc, xs, t, hd, hc, hx, hx63, ht0, htn⟩, hn, q0⟩ := h
    have q : ∀ H' r, 0 ≤ r → r < m → StAt H' d c (n + 1) → Kp d c H H' → Q (.int r) H' := fun H' r a b e k => q0 H' r a b e (kp_sm k)
    have hu := hu_of hr
    have nd := sc__law_take.nd
    refine ⟨_, (pss_cons (ps_set (i := 2) nd rfl (.inl rfl) (pe_op op_add (pe_dget hu (pv 0) pe_str (fun _ _ => rfl)) pe_int))
      (pss_cons (ps_dput hu (pv 0) pe_str (pv 2) rfl)
      (pss_cons (ps_set (i := 3) nd rfl (.inl rfl) (pe_op op_mod (pv 2) (pe_callB (kc_len (K := K)) (by rfl) T.len PySem.boot_len (pa_cons (pe_dget hu (pv 0) pe_str (fun _ _ => rfl)) pa_nil))))
      (pss_cons (ps_set (i := 4) nd rfl (.inl rfl) (pe_ix (kx_list (K := K)) (pe_dget hu (pv 0) pe_str (fun _ _ => rfl)) (pv 3) (fun _ _ => rfl)))
      (pss_cons (ps_if (pt_cmpR op_ge (pv 4) (pe_op op_pow pe_int pe_int) (nomark _))
          (pss_cons (ps_asg (pe_callB call_divmod (by rfl) T.divmod (by decide +kernel) (pa_cons (pv 4) (pa_cons (pv 1) pa_nil))) (kg_tup (K := K) (n := 2) (pgs_cons (pg_sub (pe_dget hu (pv 0) pe_str (fun _ _ => rfl)) (pv 3) set_list) (pgs_cons (pg_name (i := 5) nd rfl (.inl rfl)) pgs_nil))))
          (pss_one (ps_ret (pv 5))))
          pss_nil)
      (pss_cons (ps_set (i := 6) nd rfl (.inl rfl) (pe_op op_mod (pe_op op_mul (pe_op op_add (pe_op op_add (pe_op op_mod (pv 4) pe_int) (pe_op op_mul (pe_op op_mul (pv 2) (pv 2)) pe_int)) pe_int) pe_int) pe_int))
      (pss_cons (ps_set (i := 6) nd rfl (.inl rfl) (pe_op op_mod (pe_op op_mul (pv 6) (pv 6)) pe_int))
      (pss_one (ps_ret (pe_op op_mod (pe_op op_fdiv (pe_op op_mod (pe_op op_mul (pe_op op_add (pv 6) (pe_op op_mul (pv 2) pe_int)) pe_int) pe_int) pe_int) (pv 1))))))))))), ?_⟩
    -- turn = state['turn'] + 1
    refine ⟨_, rfl, d, _, rfl, dget_turn hd, _, _, rfl, rfl, ?_⟩
    -- state['turn'] = turn
    refine ⟨_, rfl, _, rfl, d, _, rfl, dput_turn (t + 1) hd, ?_⟩
    have hd1 : (upd H d (.dK (dS c (t + 1)))) d = some (.dK (dS c (t + 1))) := upd_same
    have hc1 : (upd H d (.dK (dS c (t + 1)))) c = some (.lst (xs.map V.int)) := by rw [upd_ne ndc.symm]; exact hc
    generalize hH1 : upd H d (.dK (dS c (t + 1))) = H1 at hd1 hc1 ⊢
    have kp1 : Kp d c H H1 := fun b o h1 h2 e => by rw [← hH1, upd_ne h1]; exact e
    obtain ⟨j, y, ej, hj, gj⟩ := mod_at (u := t + 1) hx
    have gj' : (xs.map V.int)[j]? = some (.int y) := by rw [List.getElem?_map, gj]; rfl
    -- place = turn % len(state['cells'])
    refine ⟨_, rfl, _, rfl, d, _, rfl, dget_cells hd1, _, _, rfl, .inl ⟨_, SqL.of hc1, rfl⟩, _, _, rfl, rfl, ?_, ?_⟩
    · show (0 : Int) < ((xs.map V.int).length : Int)
      rw [List.length_map]
      have h0 : 0 < xs.length := List.length_pos_iff.mpr hx
      omega
    -- cell = state['cells'][place]
    refine ⟨_, rfl, d, _, rfl, dget_cells hd1, _, rfl, c, _, _, _, rfl, rfl, SqL.of hc1, (by show atI (xs.map V.int) ((t + 1) % ((xs.map V.int).length : Int)) = some (.int y); rw [ej]; exact atI_nat gj'), ?_⟩
    -- if cell >= 10 ** 18
    refine ⟨_, rfl, _, _, rfl, rfl, ⟨by decide, by decide, by decide⟩, _, _, rfl, rfl, _, rfl, ?_⟩
    refine ite2 (fun hb => ?_) (fun hb => ?_)
    · -- cells[place], digit = divmod(cell, many)
      refine ⟨_, rfl, _, rfl, _, _, rfl, ⟨hm0, hm1⟩, fun p hp => ?_⟩
      have npd : d ≠ p := ne_of_none hd1 hp
      have npc : c ≠ p := ne_of_none hc1 hp
      refine ⟨p, _, rfl, .inl (.inl upd_same), rfl, _, _, rfl, _, rfl, d, _, rfl, dget_cells (t := t + 1) (by rw [upd_ne npd]; exact hd1), _, rfl, ?_⟩
      refine ⟨c, _, _, j, rfl, rfl, (by rw [upd_ne npc]; exact hc1), (by show ixN (xs.map V.int).length ((t + 1) % ((xs.map V.int).length : Int)) = some j; rw [ej]; exact Evl.ixN_nat (by rw [List.length_map]; exact hj)), ?_⟩
      refine ⟨_, _, rfl, rfl, _, rfl, ?_⟩
      refine q _ _ (Int.emod_nonneg _ (by omega)) (Int.emod_lt_of_pos _ hm0) ⟨ndc, xs.set j (y / m), t + 1, ?_, ?_, ?_, ?_, by omega, by omega⟩ (kp1.trans fun b o h1 h2 e => ?_)
      · rw [upd_ne ndc, upd_ne npd]; exact hd1
      · rw [upd_same, List.map_set]
      · intro z
        have z2 := congrArg List.length z
        rw [List.length_set] at z2
        exact hx (List.length_eq_zero_iff.mp z2)
      · rw [List.length_set]; exact hx63
      · rw [upd_ne h2, upd_ne (ne_of_none e hp)]; exact e
    · -- the mixed way
      have t2 : t + 1 < 2 ^ 41 := by omega
      have tt : (t + 1) * (t + 1) < 2 ^ 82 := Int.lt_of_lt_of_le (Int.mul_lt_mul t2 (Int.le_of_lt t2) (by omega) (by decide)) (by decide)
      refine ⟨_, rfl, _, _, rfl, rfl, (by show (0 : Int) < 2147483629; decide), _, rfl, _, rfl, _, _, rfl, rfl, .inl ⟨by omega, by omega⟩, _, _, rfl, rfl, .inr ⟨by decide, by decide⟩, _, _, rfl, rfl, _, _, rfl, rfl, _, _, rfl, rfl, .inr ⟨by decide, by decide⟩, _, _, rfl, rfl, (by show (0 : Int) < 2147483647; decide), ?_⟩
      refine ⟨_, rfl, _, rfl, _, _, rfl, rfl, cmul_mod _ _ (by decide) (by decide), _, _, rfl, rfl, (by show (0 : Int) < 2147483579; decide), ?_⟩
      refine ⟨_, rfl, _, rfl, _, _, rfl, rfl, .inr ⟨by decide, by decide⟩, _, _, rfl, rfl, _, _, rfl, rfl, .inr ⟨by decide, by decide⟩, _, _, rfl, rfl, (by show (0 : Int) < 2147483629; decide), _, _, rfl, rfl, ⟨by decide, by decide⟩, _, rfl, _, _, rfl, rfl, hm0, ?_⟩
      exact q _ _ (Int.emod_nonneg _ (by omega)) (Int.emod_lt_of_pos _ hm0) ⟨ndc, xs, t + 1, hd1, hc1, hx, hx63, by omega, by omega⟩ kp1

abbrev s__law_begin : Stmt := topS 10
def n__law_begin : List Str := ["_law_script", "_law_cells"]
theorem sc__law_begin : FnScope n__law_begin ["_law_script"] (defScope s__law_begin) := ⟨rfl, rfl, rfl, by decide +kernel, rfl, by decide +kernel, by decide +kernel⟩
/-! ### _law_begin -/
def spBegin (K : PySem.W.Frag) : Sp := fun vs H Q _ => ∃ (a : Addr) (ns : List Int), vs = [.ref a] ∧ SqL K H a (ns.map V.int) ∧ ns.length ≤ 63 ∧ ∀ H' d c, Same H H' → StAt H' d c 0 → H d = none → H c = none → Q (.ref d) H'
theorem ok_begin {f : Addr} {fd : FuncData} {k : Nat} (F : Fun K "_law_begin" "_law_begin" s__law_begin f fd) (T : Txt mg) : FnOk P w K mg base CX0 (k + 1) f fd ["_law_script"] (spBegin K) := by
  refine F.ok sc__law_begin (fun vs H Q E h => ?_) (fun cdv A outer s H vs Q E hr h => ?_)
  · obtain ⟨a, ns, rfl, _⟩ := h
    rfl
  · obtain ⟨a, ns, rfl, hS, h63, q⟩ := h
    refine ⟨_, pss_cons (ps_set (i := 1) sc__law_begin.nd rfl (.inl rfl) (pe_callTy call_list_of (by rfl) T.list (by decide +kernel) (pa_cons (pe_slice sl_list (pv 0) po_none (po_some pe_int)) pa_nil)))
      (pss_cons (ps_if (pt_cmpR (op_eqD hr.units) (pv 1) (pe_lst pa_nil) (nomark _)) (pss_one (ps_set (i := 1) sc__law_begin.nd rfl (.inl rfl) (pe_lst (pa_cons pe_int pa_nil)))) pss_nil)
      (pss_one (ps_ret (pe_disp (pps_cons pe_str (pv 1) (pps_cons pe_str pe_int pps_nil)) (by rfl) (by rfl) (fun z => by cases z) (by decide))))), ?_⟩
    refine ⟨_, rfl, 63, rfl, a, _, rfl, hS, fun p hp => ?_⟩
    rw [cut63 (by rw [List.length_map]; exact h63)]
    refine ⟨p, _, rfl, .inl (SqL.of upd_same), fun c hc => ?_⟩
    have npc : p ≠ c := ne_of_none (upd_same (H := H) (o := .lst (ns.map V.int))) hc
    have sm1 : Same H (upd (upd H p (.lst (ns.map V.int))) c (.lst (ns.map V.int))) := (same_upd hp).trans (same_upd hc)
    have hc0 : H c = none := (same_upd hp).free hc
    have hcl : (upd (upd H p (.lst (ns.map V.int))) c (.lst (ns.map V.int))) c = some (.lst (ns.map V.int)) := upd_same
    generalize upd (upd H p (.lst (ns.map V.int))) c (.lst (ns.map V.int)) = H1 at sm1 hcl ⊢
    refine ⟨_, rfl, Nat.zero_le _, fun e he => ?_⟩
    have nce : c ≠ e := ne_of_none hcl he
    refine ⟨_, _, .lst (SqL.of (by rw [upd_ne nce]; exact hcl)) (dp_ints ns), .lst (SqL.of upd_same) .nil, PySem.W.ke_shaped_ints ns, PySem.W.ke_shaped_ints [], _, rfl, ?_⟩
    have fin : ∀ (H2 : Hp) (c2 : Addr) (xs : List Int), Same H H2 → H c2 = none → H2 c2 = some (.lst (xs.map V.int)) → xs ≠ [] → xs.length ≤ 63 →
        tRet (tDisp [(tC (V.str "cells"), tVar 1), (tC (V.str "turn"), tC (V.int 0))]) { nx := fun x H' => Q V.non H', rt := Q } [some (.ref a), some (.ref c2)] H2 := by
      intro H2 c2 xs s2 n2 h2 x0 x63 d hd
      refine ⟨_, rfl, upd_same, [(Sum.inr "cells", .ref c2), (Sum.inr "turn", .int 0)], rfl, (by show 2 ≤ 15; decide), ?_⟩
      have em : mergeK [] [((Sum.inr "cells" : Key), V.ref c2), (Sum.inr "turn", .int 0)] = dS c2 0 := by
        have e : ¬ ((Sum.inr (Str.ofString "cells") : Key) = Sum.inr (Str.ofString "turn")) := by decide +kernel
        unfold mergeK dS
        simp [putK, e]
      rw [em]
      have ncd : c2 ≠ d := ne_of_none h2 hd
      refine q _ d c2 (same_put (same_put s2 (s2.free hd)) (s2.free hd)) ⟨ncd.symm, xs, 0, upd_same, ?_, x0, x63, by decide, by decide⟩ (s2.free hd) n2
      rw [upd_ne ncd, upd_ne ncd]
      exact h2
    cases ns with
    | nil =>
      show if PyData.eqv (PyData.list []) (PyData.list []) = true then _ else _
      rw [if_pos (by rfl)]
      refine ⟨(by show 1 ≤ sizeLine; decide), fun g hg => ?_⟩
      have hg1 : H1 g = none := (same_upd he).free hg
      exact fin _ g [17] (same_put (same_put sm1 (sm1.free he)) (sm1.free hg1)) (sm1.free hg1) upd_same (by intro z; cases z) (by decide)
    | cons n r =>
      show if PyData.eqv (PyData.list (PyData.int n :: r.map PyData.int)) (PyData.list []) = true then _ else _
      rw [if_neg (by intro z; cases z)]
      refine fin _ c (n :: r) (same_put sm1 (sm1.free he)) hc0 (by rw [upd_ne nce]; exact hcl) (by intro z; cases z) h63

/-! ### _law_some -/
abbrev s__law_some : Stmt := topS 12
def n__law_some : List Str := ["_law_state", "_law_things"]
theorem sc__law_some : FnScope n__law_some ["_law_state", "_law_things"] (defScope s__law_some) := ⟨rfl, rfl, rfl, by decide +kernel, rfl, by decide +kernel, by decide +kernel⟩
def spSome (K : PySem.W.Frag) : Sp := fun vs H Q _ => ∃ (d c l : Addr) (n : Nat) (xs : List V), vs = [.ref d, .ref l] ∧ StAt H d c n ∧ n < 2 ^ 40 ∧ SqL K (off H [d, c]) l xs ∧ xs ≠ [] ∧ xs.length ≤ 1000 ∧
  ∀ H' x, x ∈ xs → StAt H' d c (n + 1) → Sm [d, c] H H' → Q x H'
theorem ok_some {f : Addr} {fd : FuncData} {k : Nat} (F : Fun K "_law_some" "_law_some" s__law_some f fd) (T : Txt mg) (c__law_take : Cl P w K mg base (k + 1) "_law_take" spTake) : FnOk P w K mg base CX0 (k + 2) f fd ["_law_state", "_law_things"] (spSome K) := by
  refine F.ok sc__law_some (fun vs H Q E h => ?_) (fun cdv A outer s H vs Q E hr h => ?_)
  · obtain ⟨d, c, l, n, xs, rfl, _⟩ := h
    rfl
  · obtain ⟨d, c, l, n, xs, rfl, hS, hn, hl, hx, h1000, q⟩ := h
    have nd := sc__law_some.nd
    refine ⟨_, (pss_one (ps_ret (pe_ix (kx_list (K := K)) (pv 1) (pe_cl c__law_take hr (by omega) (by rfl) (pa_cons (pv 0) (pa_cons (pe_callB (kc_len (K := K)) (by rfl) T.len PySem.boot_len (pa_cons (pv 1) pa_nil)) pa_nil))) (fun _ _ => rfl)))), ?_⟩
    have hp : 0 < xs.length := List.length_pos_iff.mpr hx
    refine ⟨_, rfl, _, rfl, _, rfl, _, _, rfl, .inl ⟨_, sq_off hl, rfl⟩, d, c, _, n, rfl, (by omega), (by omega), hS, hn, fun H1 r r0 r1 hS1 k1 => ?_⟩
    obtain ⟨i, rfl⟩ : ∃ i : Nat, r = (i : Int) := ⟨r.toNat, by omega⟩
    have hi : i < xs.length := by omega
    exact ⟨l, xs, _, xs[i], rfl, rfl, sq_off (k1.seq hl), atI_nat (List.getElem?_eq_getElem hi), q _ _ (List.getElem_mem hi) hS1 k1⟩

end
end Pot

namespace Pot
open PySem PySem.Spec PyProof.Rows L2
section
variable {P : Program} {w : World} {K : PySem.W.Frag} {mg : Str → Option Value} {base : Heap}
/-! ### _law_names: words of letters -/
abbrev s__law_names : Stmt := topS 13
def n__law_names : List Str := ["_law_state", "_law_many", "_law_letters", "_law_first", "_law_pairs", "_law_stem", "_law_at", "_law_step", "_law_short", "_law_found", "_law_k", "_law_name_here", "_law_turn"]
theorem sc__law_names : FnScope n__law_names ["_law_state", "_law_many"] (defScope s__law_names) := ⟨rfl, rfl, rfl, by decide +kernel, rfl, by decide +kernel, by decide +kernel⟩
def spTakeK : Sp := fun vs H Q _ => ∃ (d c : Addr) (m : Int) (n : Nat), vs = [.ref d, .int m] ∧ 0 < m ∧ m < 1073741824 ∧ StAt H d c n ∧ n < 2 ^ 40 ∧
  ∀ H' r, 0 ≤ r → r < m → StAt H' d c (n + 1) → Kp d c H H' → Q (.int r) H'
def Lt (fi stp : Int) (j : Nat) : Nat := 97 + ((fi + stp * (0 + (j : Int))) % 26).toNat
theorem lt_inj {fi stp : Int} {i j : Nat} (hs : stp = 3 ∨ stp = 5 ∨ stp = 25) (hi : i < 26) (hj : j < 26) (e : Lt fi stp i = Lt fi stp j) : i = j := by
  unfold Lt at e
  rcases hs with rfl | rfl | rfl <;> omega
theorem cps_app (a b : Str) : (a ++ b).cps.toList = a.cps.toList ++ b.cps.toList := Array.toList_append
/-- the names found so far: each has its letter at its place, none is there twice -/
structure Nms (fi stp : Int) (a2 : Nat) (ys : List Str) : Prop where
  nm : ∀ y ∈ ys, Nm y
  nd : ys.Nodup
  lt : ∀ (p : Nat) (y : Str), ys[p]? = some y → ∃ j, j ≤ p ∧ y.cps.toList[a2]? = some (Lt fi stp j) ∧ (p % 2 = 0 → j = p)
theorem Nms.nil {fi stp : Int} {a2 : Nat} : Nms fi stp a2 [] := ⟨fun _ h => (List.not_mem_nil h).elim, List.nodup_nil, fun _ _ h => by simp at h⟩
theorem Nms.put {fi stp : Int} {a2 : Nat} {ys : List Str} {z : Str} {j : Nat} (M : Nms fi stp a2 ys) (n : Nm z) (nz : z ∉ ys) (hj : j ≤ ys.length) (h : z.cps.toList[a2]? = some (Lt fi stp j)) (e : ys.length % 2 = 0 → j = ys.length) : Nms fi stp a2 (ys ++ [z]) := by
  refine ⟨fun y hy => ?_, ?_, fun p y hp => ?_⟩
  · rcases List.mem_append.mp hy with k | k
    · exact M.nm y k
    · rw [List.mem_singleton.mp k]; exact n
  · refine List.nodup_append.mpr ⟨M.nd, by simp, fun a ha b hb => ?_⟩
    rw [List.mem_singleton.mp hb]
    intro k; exact nz (k ▸ ha)
  · rcases Nat.lt_or_ge p ys.length with k | k
    · rw [List.getElem?_append_left k] at hp
      exact M.lt p y hp
    · rw [List.getElem?_append_right k] at hp
      have e0 : p = ys.length := by
        rcases Nat.lt_or_ge (p - ys.length) 1 with q | q
        · omega
        · rw [List.getElem?_eq_none (by simpa using q)] at hp; cases hp
      subst e0
      have : z = y := by simpa using hp
      subst this
      exact ⟨j, hj, h, e⟩
/-- a name with its own letter is new -/
theorem Nms.fresh {fi stp : Int} {a2 : Nat} {ys : List Str} {z : Str} (M : Nms fi stp a2 ys) (hs : stp = 3 ∨ stp = 5 ∨ stp = 25) (l : ys.length < 26) (h : z.cps.toList[a2]? = some (Lt fi stp ys.length)) : z ∉ ys := fun k => by
  obtain ⟨p, hp⟩ := List.getElem?_of_mem k
  have hl := (List.getElem?_eq_some_iff.mp hp).1
  obtain ⟨j, h1, h2, _⟩ := M.lt p z hp
  rw [h2] at h
  have := lt_inj hs (by omega) l (Option.some.inj h)
  omega
/-- a name longer than the last one is new -/
theorem Nms.longer {fi stp : Int} {a2 : Nat} {hd : List Str} {y z : Str} (M : Nms fi stp a2 (hd ++ [y])) (hs : stp = 3 ∨ stp = 5 ∨ stp = 25) (l : hd.length < 26) (e : hd.length % 2 = 0) (lz : y.length < z.length) (h : z.cps.toList[a2]? = y.cps.toList[a2]?) : z ∉ hd ++ [y] := fun k => by
  obtain ⟨j0, _, h0, e0⟩ := M.lt hd.length y (by simp)
  obtain ⟨p, hp⟩ := List.getElem?_of_mem k
  rcases Nat.lt_or_ge p hd.length with q | q
  · obtain ⟨j, h1, h2, _⟩ := M.lt p z hp
    rw [h2, h0] at h
    have := lt_inj hs (by omega) (by rw [e0 e]; omega) (Option.some.inj h)
    have := e0 e
    omega
  · rw [List.getElem?_append_right q] at hp
    have : y = z := by
      rcases Nat.lt_or_ge (p - hd.length) 1 with q2 | q2
      · have : p - hd.length = 0 := by omega
        rw [this] at hp
        simpa using hp
      · rw [List.getElem?_eq_none (by simpa using q2)] at hp; cases hp
    subst this
    omega
def spNames : Sp := fun vs H Q _ => ∃ (d c : Addr) (n m : Nat), vs = [.ref d, .int (m : Nat)] ∧ StAt H d c n ∧ n + 2000 < 2 ^ 40 ∧ m ≤ 26 ∧
  ∀ (H' : Hp) (L : Addr) (ys : List Str), StAt H' d c (n + 13 + m) → Sm [d, c] H H' → H L = none → H' L = some (.lst (ys.map V.str)) → ys.length = m → (∀ y ∈ ys, Nm y) → ys.Nodup → Q (.ref L) H'
theorem ok_names {f : Addr} {fd : FuncData} {k : Nat} (F : Fun K "_law_names" "_law_names" s__law_names f fd) (T : Txt mg) (c__law_take : Cl P w K mg base (k + 1) "_law_take" spTake) : FnOk P w K mg base CX0 (k + 2) f fd ["_law_state", "_law_many"] spNames := by
  refine F.ok sc__law_names (fun vs H Q E h => ?_) (fun cdv A outer s H vs Q E hr h => ?_)
  · obtain ⟨d, c, n, m, rfl, _⟩ := h
    rfl
  · obtain ⟨d, c, n, m, rfl, hS, hn, hm, q⟩ := h
    have c__law_take : Cl P w K mg base (k + 1) "_law_take" spTakeK := c__law_take.imp fun vs H Q E h => by
      obtain ⟨d, c, m, n, e, h1, h2, h3, h4, q⟩ := h
      exact ⟨d, c, m, n, e, h1, h2, h3, h4, fun H' r a b st k => q H' r a b st (sm_kp k)⟩
    have nd := sc__law_names.nd
    refine ⟨_, (pss_cons (ps_asg (pe_tup (pa_cons pe_str (pa_cons (pe_cl c__law_take hr (by omega) (by rfl) (pa_cons (pv 0) (pa_cons pe_int pa_nil))) (pa_cons (pe_cl c__law_take hr (by omega) (by rfl) (pa_cons (pv 0) (pa_cons pe_int pa_nil))) pa_nil)))) (kg_tup (K := K) (n := 3) (pgs_cons (pg_name (i := 2) nd rfl (.inr rfl)) (pgs_cons (pg_name (i := 3) nd rfl (.inl rfl)) (pgs_cons (pg_name (i := 4) nd rfl (.inl rfl)) pgs_nil)))))
      (pss_cons (ps_set (i := 5) nd rfl (.inl rfl) (ke_join (K := K) pe_str (pe_lc (own := [("_law_turn", 12)]) rfl nd (pi_range1 (by rfl) T.range (pa_cons (pe_cl c__law_take hr (by omega) (by rfl) (pa_cons (pv 0) (pa_cons pe_int pa_nil))) pa_nil)) (blkOk_by (N := n__law_names) (sc := defScope s__law_names) (by decide +kernel)) (fun _ _ _ _ _ => (pg_name (i := 12) nd rfl (.inl rfl))) (fun _ _ _ _ _ => pts_nil) (fun _ _ _ _ _ => (pe_ix ix_str (pv 2) (pe_cl c__law_take hr (by omega) (by rfl) (pa_cons (pv 0) (pa_cons pe_int pa_nil))) (fun _ _ => rfl))))))
      (pss_cons (ps_par3 (i := 6) (j := 7) (l := 8) rfl nd rfl rfl rfl (by decide) (by decide) (by decide) rfl rfl rfl (pa_cons (pe_cl c__law_take hr (by omega) (by rfl) (pa_cons (pv 0) (pa_cons (pe_op op_add (pe_callB (kc_len (K := K)) (by rfl) T.len PySem.boot_len (pa_cons (pv 5) pa_nil)) pe_int) pa_nil))) (pa_cons (pe_ix (kx_list (K := K)) (pe_lst (pa_cons pe_int (pa_cons pe_int (pa_cons pe_int pa_nil)))) (pe_cl c__law_take hr (by omega) (by rfl) (pa_cons (pv 0) (pa_cons pe_int pa_nil))) (fun _ _ => rfl)) (pa_cons (pe_cl c__law_take hr (by omega) (by rfl) (pa_cons (pv 0) (pa_cons pe_int pa_nil))) pa_nil))) rfl)
      (pss_cons (ps_set (i := 9) nd rfl (.inl rfl) (pe_lst pa_nil))
      (pss_cons (ps_for PassesOwn.never rfl (pi_range1 (by rfl) T.range (pa_cons (pv 1) pa_nil)) (pg_name (i := 10) nd rfl (.inl rfl))
          (pss_cons (ps_set (i := 11) nd rfl (.inl rfl) (pe_op op_add_str (pe_slice sl_str (pv 5) po_none (po_some (pv 6))) (pe_ix ix_str (pv 2) (pe_op op_mod (pe_op op_add (pv 3) (pe_op op_mul (pv 7) (pv 10))) pe_int) (fun _ _ => rfl))))
          (pss_cons (ps_set (i := 11) nd rfl (.inl rfl) (pe_op op_add_str (pv 11) (pe_ix (kx_list (K := K)) (pe_lst (pa_cons (pe_slice sl_str (pv 5) (po_some (pv 6)) po_none) (pa_cons (pe_slice sl_str (pe_slice sl_str (pv 5) (po_some (pv 6)) po_none) po_none (po_some (pe_op op_mod (pv 10) pe_int))) pa_nil))) (pv 8) (fun _ _ => rfl))))
          (pss_cons (ps_if ((pw_and (pt_cmpR op_eq (pv 4) pe_int (nomark _)) (pw_and (pt_cmpR op_eq (pe_op op_mod (pv 10) pe_int) pe_int (nomark _)) (pw_and1 (pt_cmpR op_lt (pe_callB (kc_len (K := K)) (by rfl) T.len PySem.boot_len (pa_cons (pe_ix (kx_list (K := K)) (pv 9) (pe_un un_neg pe_int) (fun _ _ => rfl)) pa_nil)) pe_int (nomark _)))))).pt
              (pss_one (ps_set (i := 11) nd rfl (.inl rfl) (pe_op op_add_str (pe_ix (kx_list (K := K)) (pv 9) (pe_un un_neg pe_int) (fun _ _ => rfl)) (pe_ix ix_str (pv 2) (pe_cl c__law_take hr (by omega) (by rfl) (pa_cons (pv 0) (pa_cons pe_int pa_nil))) (fun _ _ => rfl)))))
              pss_nil)
          (pss_one (ps_expr (pe_bm PySem.F.plainAttrs_list PySem.F.slot_list_append PySem.F.type_list_append mt_append (pv 9) (pa_cons (pv 11) pa_nil))))))))
      (pss_one (ps_ret (pv 9)))))))), ?_⟩
    -- letters, first, pairs
    refine ⟨_, rfl, d, c, 26, n, rfl, (by decide), (by decide), hS, by omega, fun H1 fi f0 f1 hS1 k1 => ?_⟩
    refine ⟨_, rfl, d, c, 2, n + 1, rfl, (by decide), (by decide), hS1, by omega, fun H2 pr p0 p1 hS2 k2 => ⟨(by show 3 ≤ sizeLine; decide), fun t nt => ?_⟩⟩
    have k2 := k1.trans k2
    have k3 := kp_put (o := .tup [.str "abcdefghijklmnopqrstuvwxyz", .int fi, .int pr]) k2 (k2.free hS2 nt)
    have hS3 := hS2.put (o := .tup [.str "abcdefghijklmnopqrstuvwxyz", .int fi, .int pr]) (hS2.ne1 nt) (hS2.ne2 nt)
    refine ⟨t, _, rfl, .inl (.inl upd_same), rfl, _, _, rfl, _, _, rfl, _, _, rfl, rfl, ?_⟩
    generalize upd H2 t (.tup [.str "abcdefghijklmnopqrstuvwxyz", .int fi, .int pr]) = H3 at k3 hS3 ⊢
    -- stem
    refine ⟨⟨_, rfl⟩, _, rfl, d, c, 8, n + 2, rfl, (by decide), (by decide), hS3, by omega, fun H4 sn s0 s1 hS4 k4 => ⟨_, rfl, (by omega), (by omega), fun D nD => ?_⟩⟩
    have k4 := k3.trans k4
    have nD0 := k4.free hS4 nD
    have nDd := (hS4.ne1 nD).symm
    have nDc := (hS4.ne2 nD).symm
    refine lc_it walk_range (fun i H5 => StAt H5 d c (n + 3 + i) ∧ Kp d c H H5 ∧ ∃ ys : List Str, H5 D = some (.lst (ys.map V.str)) ∧ ys.length = i ∧ ∀ y ∈ ys, Wd 1 y) ⟨hS4.put nDd.symm nDc.symm, kp_put k4 nD0, [], upd_same, rfl, fun _ h => (List.not_mem_nil h).elim⟩ (fun _ _ _ _ => trivial) ?_ ?_
    · rintro i x H5 H6 hi ⟨hS5, k5, ys, hL, hy, hw⟩ ⟨rfl, rfl⟩
      refine ⟨rfl, tYes_at ?_⟩
      rw [if_pos rfl]
      refine ⟨_, rfl, _, rfl, d, c, 26, n + 3 + i, rfl, (by decide), (by decide), hS5, by omega, fun H7 r r0 r1 hS7 k7 => ?_⟩
      refine ⟨_, r, 97 + r.toNat, rfl, rfl, (by decide +kernel), az_ix r0 r1, _, k7 D _ nDd nDc hL, ?_, (hS7.put nDd.symm nDc.symm).mono (by omega), kp_put (k5.trans k7) nD0, ys ++ [⟨#[97 + r.toNat]⟩], ?_, ?_, ?_⟩
      · rw [List.length_map, hy]; exact Nat.lt_of_lt_of_le (show i < 8 by omega) (by decide)
      · rw [upd_same, List.map_append]; rfl
      · rw [List.length_append, hy]; rfl
      · intro y h
        rcases List.mem_append.mp h with h | h
        · exact hw y h
        · rw [List.mem_singleton.mp h]; exact wd_letter r0 r1
    rintro H5 ⟨hS5, k5, ys, hL, hy, hw⟩
    have hy7 : ys.length ≤ 7 := by omega
    refine ⟨_, D, ys, rfl, rfl, .inl (SqL.of hL), ?_, ?_⟩
    · have h : ∀ {l : List Str}, (∀ y ∈ l, Wd 1 y) → (l.map (·.length)).sum ≤ l.length := by
        intro l
        induction l with
        | nil => intro _; exact Nat.le_refl _
        | cons a r ih =>
          intro h
          have h1 := (h a List.mem_cons_self).1
          have h2 := ih fun y hy => h y (List.mem_cons_of_mem _ hy)
          simp only [List.map_cons, List.sum_cons, List.length_cons]
          omega
      have := h hw
      show _ + ys.length * 0 ≤ _
      omega
    have hst : Wd 7 (Txt.join (Str.ofString "") ys) := by rw [TL.join_eq]; exact (wd_join hw).mono hy7
    have hS5 : StAt H5 d c (n + 10) := hS5.mono (by omega)
    generalize Txt.join (Str.ofString "") ys = stem at hst ⊢
    -- at, step, short
    refine ⟨_, rfl, _, rfl, _, _, rfl, ⟨wd_small hst (by decide), rfl⟩, _, _, rfl, rfl, d, c, _, n + 10, rfl, (by omega), (by have := hst.1; omega), hS5, by omega, fun H6 at_ a0 a1 hS6 k6 => ?_⟩
    refine ⟨(by show 3 ≤ sizeLine; decide), fun z nz => ?_⟩
    have k6 := k5.trans k6
    have ndz := (hS6.ne1 nz).symm
    have ncz := (hS6.ne2 nz).symm
    have hS7 := hS6.put (o := .lst [.int 3, .int 5, .int 25]) ndz.symm ncz.symm
    have k7 := kp_put (o := .lst [.int 3, .int 5, .int 25]) k6 (k6.free hS6 nz)
    have hz : upd H6 z (.lst [.int 3, .int 5, .int 25]) z = _ := upd_same
    generalize upd H6 z (.lst [.int 3, .int 5, .int 25]) = H7 at hS7 k7 hz ⊢
    refine ⟨_, rfl, d, c, 3, n + 11, rfl, (by decide), (by decide), hS7, by omega, fun H8 r3 b0 b1 hS8 k8 => ?_⟩
    obtain ⟨stp, es⟩ : ∃ stp : Int, atI [V.int 3, .int 5, .int 25] r3 = some (.int stp) ∧ (stp = 3 ∨ stp = 5 ∨ stp = 25) := by
      have h : r3 = 0 ∨ r3 = 1 ∨ r3 = 2 := by omega
      rcases h with rfl | rfl | rfl
      · exact ⟨3, rfl, by decide⟩
      · exact ⟨5, rfl, by decide⟩
      · exact ⟨25, rfl, by decide⟩
    refine ⟨z, _, r3, .int stp, rfl, rfl, SqL.of (k8 _ _ ndz ncz hz), es.1, ?_⟩
    refine ⟨_, rfl, d, c, 2, n + 12, rfl, (by decide), (by decide), hS8, by omega, fun H9 sh c0 c1 hS9 k9 => ⟨_, _, _, rfl, ?_⟩⟩
    have k9 := (k7.trans k8).trans k9
    obtain ⟨a2, rfl⟩ : ∃ a2 : Nat, at_ = (a2 : Int) := ⟨at_.toNat, by omega⟩
    have ha2 : a2 ≤ stem.length := by omega
    -- found = []
    refine ⟨Nat.zero_le _, fun L nL => ?_⟩
    have nL0 := k9.free hS9 nL
    have nLd := (hS9.ne1 nL).symm
    have nLc := (hS9.ne2 nL).symm
    refine ⟨_, rfl, _, rfl, (by omega), (by omega), ?_⟩
    refine for_it walk_range (fun i σ H10 => ∃ v10 v11, σ = [some (.ref d), some (.int (m : Nat)), some (.str "abcdefghijklmnopqrstuvwxyz"), some (.int fi), some (.int pr), some (.str stem), some (.int (a2 : Nat)), some (.int stp), some (.int sh), some (.ref L), v10, v11, none] ∧
        StAt H10 d c (n + 13 + i) ∧ Kp d c H H10 ∧ ∃ ys : List Str, H10 L = some (.lst (ys.map V.str)) ∧ ys.length = i ∧ Nms fi stp a2 ys)
      ⟨none, none, rfl, hS9.put nLd.symm nLc.symm, kp_put k9 nL0, [], upd_same, rfl, .nil⟩ (fun _ _ _ _ _ => trivial) ?_ ?_
    · rintro i x σ H10 H11 hi ⟨v10, v11, rfl, hS10, k10, ys2, hL2, hy2, hw2⟩ ⟨rfl, rfl⟩
      have hi2 : i < m := by omega
      have x0 : 0 ≤ (fi + stp * (0 + (i : Int))) % 26 := Int.emod_nonneg _ (by decide)
      have x1 : (fi + stp * (0 + (i : Int))) % 26 < 26 := Int.emod_lt_of_pos _ (by decide)
      have w1 := wd_head (k := a2) hst
      have w3 := wd_tail (k := a2) hst
      -- name = stem[:at] + letters[..]
      refine ⟨_, rfl, _, rfl, _, rfl, _, rfl, wd_small hst (by decide), ?_⟩
      refine ⟨_, rfl, _, rfl, _, rfl, _, rfl, _, _, rfl, rfl, .inl ⟨by omega, by omega⟩, _, _, rfl, rfl, _, _, rfl, rfl, (by show (0 : Int) < 26; decide), ?_⟩
      refine ⟨_, _, _, rfl, rfl, (by decide +kernel), az_ix x0 x1, _, _, rfl, rfl, ?_, ?_⟩
      · have := w1.1
        show _ + 1 ≤ sizeLine
        rw [sizeLine_eq]
        have := hst.1
        omega
      have w2 := wd_add w1 (wd_letter x0 x1)
      have nm1 := w2
      have la : (cutS stem none (some ((a2 : Nat) : Int)) ++ ⟨#[97 + ((fi + stp * (0 + (i : Int))) % 26).toNat]⟩).cps.toList[a2]? = some (Lt fi stp i) := by
        have lc : (cutS stem none (some ((a2 : Nat) : Int))).cps.toList.length = a2 := by
          unfold cutS
          rw [HT.sIx_none, HT.sIx_nat]
          show (List.take _ _).toArray.toList.length = a2
          have e : stem.cps.toList.length = stem.length := Array.length_toList
          simp only [List.length_take, List.length_drop, e]
          omega
        rw [cps_app, List.getElem?_append_right (by omega), lc, Nat.sub_self]
        rfl
      generalize cutS stem none (some ((a2 : Nat) : Int)) ++ ⟨#[97 + ((fi + stp * (0 + (i : Int))) % 26).toNat]⟩ = nam at nm1 la ⊢
      -- name = name + [..][short]
      refine ⟨_, rfl, _, rfl, _, rfl, _, rfl, _, rfl, wd_small hst (by decide), ?_⟩
      refine ⟨_, rfl, _, rfl, _, rfl, _, rfl, wd_small hst (by decide), ?_⟩
      refine ⟨_, rfl, _, _, rfl, rfl, (by show (0 : Int) < 3; decide), _, rfl, _, rfl, wd_small (wd_cut hst) (by decide), (by show 2 ≤ sizeLine; decide), fun u nu => ?_⟩
      have k11 := kp_put (o := .lst [.str (cutS stem (some ((a2 : Nat) : Int)) none), .str (cutS (cutS stem (some ((a2 : Nat) : Int)) none) none (some ((0 + (i : Int)) % 3)))]) k10 (k10.free hS10 nu)
      have hS11 := hS10.put (o := .lst [.str (cutS stem (some ((a2 : Nat) : Int)) none), .str (cutS (cutS stem (some ((a2 : Nat) : Int)) none) none (some ((0 + (i : Int)) % 3)))]) (hS10.ne1 nu) (hS10.ne2 nu)
      have hu : upd H11 u (.lst [.str (cutS stem (some ((a2 : Nat) : Int)) none), .str (cutS (cutS stem (some ((a2 : Nat) : Int)) none) none (some ((0 + (i : Int)) % 3)))]) u = _ := upd_same
      have hL3 := same_upd (o := .lst [.str (cutS stem (some ((a2 : Nat) : Int)) none), .str (cutS (cutS stem (some ((a2 : Nat) : Int)) none) none (some ((0 + (i : Int)) % 3)))]) nu _ _ hL2
      obtain ⟨tl, etl, wtl⟩ : ∃ tl : Str, atI [V.str (cutS stem (some ((a2 : Nat) : Int)) none), .str (cutS (cutS stem (some ((a2 : Nat) : Int)) none) none (some ((0 + (i : Int)) % 3)))] sh = some (.str tl) ∧ Wd (stem.length - a2) tl := by
        have h : sh = 0 ∨ sh = 1 := by omega
        rcases h with rfl | rfl
        · exact ⟨_, rfl, w3⟩
        · exact ⟨_, rfl, wd_cut w3⟩
      generalize upd H11 u (.lst [.str (cutS stem (some ((a2 : Nat) : Int)) none), .str (cutS (cutS stem (some ((a2 : Nat) : Int)) none) none (some ((0 + (i : Int)) % 3)))]) = H12 at k11 hS11 hu hL3 ⊢
      have w8 : Wd 8 (nam ++ tl) := (wd_add nm1 wtl).mono (by have := hst.1; omega)
      refine ⟨_, rfl, u, _, sh, .str tl, rfl, rfl, SqL.of hu, etl, _, _, rfl, rfl, ?_, ?_⟩
      · have h1 := nm1.1
        have h2 := wtl.1
        have h3 := hst.1
        rw [sizeLine_eq]
        omega
      have lb : (nam ++ tl).cps.toList[a2]? = some (Lt fi stp i) := by
        have := (List.getElem?_eq_some_iff.mp la).1
        rw [cps_app, List.getElem?_append_left this]; exact la
      have pos : ∀ {z : Str} {v : Nat}, z.cps.toList[a2]? = some v → 0 < z.length := fun {z v} h => by
        have := (List.getElem?_eq_some_iff.mp h).1
        rw [Array.length_toList] at this
        exact Nat.lt_of_le_of_lt (Nat.zero_le _) this
      have M8 : Nms fi stp a2 (ys2 ++ [nam ++ tl]) := hw2.put ⟨w8, pos lb⟩ (hw2.fresh es.2 (by omega) (by rw [hy2]; exact lb)) (Nat.le_refl _) (by rw [hy2]; exact lb) (fun _ => rfl)
      generalize nam ++ tl = nam2 at w8 M8 ⊢
      have fin : ∀ (H13 : Hp) (nm : Str), Nms fi stp a2 (ys2 ++ [nm]) → StAt H13 d c (n + 13 + i + 1) → Kp d c H H13 → H13 L = some (.lst (ys2.map V.str)) →
          ∃ v10 v11, [some (V.ref d), some (.int (m : Nat)), some (.str "abcdefghijklmnopqrstuvwxyz"), some (.int fi), some (.int pr), some (.str stem), some (.int (a2 : Nat)), some (.int stp), some (.int sh), some (.ref L), some (.int (0 + (i : Int))), some (.str nm), none] = [some (V.ref d), some (.int (m : Nat)), some (.str "abcdefghijklmnopqrstuvwxyz"), some (.int fi), some (.int pr), some (.str stem), some (.int (a2 : Nat)), some (.int stp), some (.int sh), some (.ref L), v10, v11, none] ∧
          StAt (upd H13 L (.lst (ys2.map V.str ++ [.str nm]))) d c (n + 13 + (i + 1)) ∧ Kp d c H (upd H13 L (.lst (ys2.map V.str ++ [.str nm]))) ∧ ∃ ys : List Str, upd H13 L (.lst (ys2.map V.str ++ [.str nm])) L = some (.lst (ys.map V.str)) ∧ ys.length = i + 1 ∧ Nms fi stp a2 ys := by
        intro H13 nm wn hS13 k13 hL13
        refine ⟨_, _, rfl, hS13.put nLd.symm nLc.symm, kp_put k13 nL0, ys2 ++ [nm], by rw [upd_same, List.map_append]; rfl, by rw [List.length_append, hy2]; rfl, wn⟩
      have hS12 := hS11.mono (Nat.le_succ _)
      refine ⟨_, rfl, rfl, _, rfl, ite2 (fun h1 => ?_) (fun h1 => ?_)⟩
      · refine ⟨_, rfl, _, _, rfl, rfl, (by show (0 : Int) < 2; decide), rfl, _, rfl, ite2 (fun h2 => ?_) (fun h2 => ?_)⟩
        · have ei : (0 + (i : Int)) % 2 = 1 := V.int.inj (of_decide_eq_true h2)
          have ne2 : ys2 ≠ [] := fun z => by rw [z] at hy2; simp at hy2; omega
          obtain ⟨hd, y0, e0⟩ : ∃ hd y0, ys2 = hd ++ [y0] := ⟨_, _, (List.dropLast_concat_getLast ne2).symm⟩
          have el : atI (ys2.map V.str) (-1) = some (.str y0) := by
            rw [e0, List.map_append]; exact atI_last _ _
          have wy0 : Wd 8 y0 := (hw2.nm y0 (by rw [e0]; simp)).1
          refine ⟨_, rfl, 1, rfl, L, _, -1, _, rfl, rfl, SqL.of hL3, el, _, _, rfl, ⟨wd_small wy0 (by decide), rfl⟩, _, _, rfl, rfl, _, rfl, ite2 (fun h3 => ?_) (fun h3 => ?_)⟩
          · have ly : y0.length < 8 := by have := of_decide_eq_true h3; omega
            refine ⟨_, rfl, 1, rfl, L, _, -1, _, rfl, rfl, SqL.of hL3, el, _, rfl, _, rfl, d, c, 26, n + 13 + i, rfl, (by decide), (by decide), hS11, by omega, fun H14 r r0 r1 hS14 k14 => ?_⟩
            have hL4 := k14 L _ nLd nLc hL3
            refine ⟨_, r, _, rfl, rfl, (by decide +kernel), az_ix r0 r1, _, _, rfl, rfl, ?_, ?_⟩
            · show _ + 1 ≤ sizeLine
              rw [sizeLine_eq]
              omega
            have wz : Wd 8 (y0 ++ ⟨#[97 + r.toNat]⟩) := ⟨by rw [strLen_append]; show _ + 1 ≤ 8; omega, (wd_add wy0 (wd_letter r0 r1)).2⟩
            have eh : hd.length = i - 1 := by rw [e0, List.length_append] at hy2; have : [y0].length = 1 := rfl; omega
            obtain ⟨j0, l0, g0, h0⟩ := hw2.lt hd.length y0 (by rw [e0]; simp)
            have gz : (y0 ++ ⟨#[97 + r.toNat]⟩).cps.toList[a2]? = y0.cps.toList[a2]? := by
              rw [cps_app, List.getElem?_append_left (List.getElem?_eq_some_iff.mp g0).1]
            have Mz : Nms fi stp a2 (ys2 ++ [y0 ++ ⟨#[97 + r.toNat]⟩]) := by
              refine hw2.put ⟨wz, by rw [strLen_append]; show 0 < _ + 1; omega⟩ ?_ (show hd.length ≤ _ by omega) (by rw [gz, g0, h0 (by omega)]) (fun z => by omega)
              have := hw2
              rw [e0] at this ⊢
              exact this.longer es.2 (by omega) (by omega) (by rw [strLen_append]; show _ < _ + 1; omega) gz
            refine ⟨_, rfl, .inl ⟨rfl, _, SqL.of hL4⟩, _, rfl, L, _, _, rfl, rfl, hL4, (by rw [List.length_map, hy2]; exact Nat.lt_of_lt_of_le (show i < 1001 by omega) (by decide)), fin _ _ Mz hS14 (k11.trans k14) hL4⟩
          · refine ⟨_, rfl, .inl ⟨rfl, _, SqL.of hL3⟩, _, rfl, L, _, _, rfl, rfl, hL3, (by rw [List.length_map, hy2]; exact Nat.lt_of_lt_of_le (show i < 1001 by omega) (by decide)), fin _ _ M8 hS12 k11 hL3⟩
        · refine iteF ?_
          refine ⟨_, rfl, .inl ⟨rfl, _, SqL.of hL3⟩, _, rfl, L, _, _, rfl, rfl, hL3, (by rw [List.length_map, hy2]; exact Nat.lt_of_lt_of_le (show i < 1001 by omega) (by decide)), fin _ _ M8 hS12 k11 hL3⟩
      · refine iteF ?_
        refine ⟨_, rfl, .inl ⟨rfl, _, SqL.of hL3⟩, _, rfl, L, _, _, rfl, rfl, hL3, (by rw [List.length_map, hy2]; exact Nat.lt_of_lt_of_le (show i < 1001 by omega) (by decide)), fin _ _ M8 hS12 k11 hL3⟩
    · rintro σ H10 ⟨v10, v11, rfl, hS10, k10, ys2, hL2, hy2, hw2⟩
      exact ⟨_, rfl, q _ L ys2 hS10 (kp_sm k10) nL0 hL2 (by rw [hy2, Int.toNat_natCast]) hw2.nm hw2.nd⟩

end
end Pot

namespace Pot
open PySem PySem.Spec PyProof.Rows L2
section
variable {P : Program} {w : World} {K : PySem.W.Frag} {mg : Str → Option Value} {base : Heap}
def abc : Str := "abcdefghijklmnopqrstuvwxyz"
def Let (mg : Str → Option Value) : Prop := ∃ t, mg "LETTERS" = some (.str abc t)
def nameD : PyData → Bool
  | .str z => decide ((1 : Int) ≤ (z.length : Nat)) && (decide (((z.length : Nat) : Int) ≤ 8) && z.cps.toList.all fun c => decide (c ∈ abc.cps.toList))
  | _ => false
def spNum (K : PySem.W.Frag) : Sp := fun vs H Q _ => ∃ (x : V) (d : PyData) (lo hi : Int), vs = [x, .int lo, .int hi] ∧ Dp K H x d ∧ Q (.bl (numD lo hi d)) H
/-! ### is_number: whether it's a number within bounds -/
abbrev s_is_number : Stmt := topS 2
def n_is_number : List Str := ["thing", "low", "high"]
theorem sc_is_number : FnScope n_is_number ["thing", "low", "high"] (defScope s_is_number) := ⟨rfl, rfl, rfl, by decide +kernel, rfl, by decide +kernel, by decide +kernel⟩
theorem ok_num {f : Addr} {fd : FuncData} {k : Nat} (F : Fun K "is_number" "is_number" s_is_number f fd) (T : Txt mg) : FnOk P w K mg base CX0 (k + 1) f fd ["thing", "low", "high"] (spNum K) := by
  refine F.ok sc_is_number (fun vs H Q E h => ?_) (fun cdv A outer s H vs Q E hr h => ?_)
  · obtain ⟨x, d, lo, hi, rfl, _⟩ := h
    rfl
  · obtain ⟨x, d, lo, hi, rfl, dp, q⟩ := h
    have nd := sc_is_number.nd
    refine ⟨_, (pss_one (ps_ret (pe_and (pe_callB (kc_isi (K := K)) (by rfl) T.isinstance (by decide +kernel) (pa_cons (pv 0) (pa_cons (pe_bltn (v := .ty "int") (by rfl) T.int (by decide +kernel) rfl) pa_nil))) (pe_and (pe_not (pe_callB (kc_isi (K := K)) (by rfl) T.isinstance (by decide +kernel) (pa_cons (pv 0) (pa_cons (pe_bltn (v := .ty "bool") (by rfl) T.bool (by decide +kernel) rfl) pa_nil)))) (pe_one (pe_chain op_le op_le (pv 1) (pv 0) (pv 2))))))), ?_⟩
    refine ⟨_, rfl, _, .ty _, _, _, isIntD _, rfl, .ty _, tyx_dp dp, kit_int dp, _, rfl, ?_⟩
    have dp2 := dp
    cases dp with
    | int i =>
      refine iteT ⟨_, rfl, _, .ty _, _, _, isBoolD _, rfl, .ty _, tyx_dp dp2, kit_bool dp2, _, rfl, _, rfl, iteT ?_⟩
      refine ⟨_, rfl, _, rfl, _, _, rfl, rfl, _, rfl, ite2 (fun h1 => ⟨_, rfl, _, _, rfl, rfl, ?_⟩) (fun h1 => ?_)⟩
      · have e : numD lo hi (.int i) = decide (i ≤ hi) := by show (decide (lo ≤ i) && _) = _; rw [h1]; rfl
        rw [e] at q; exact q
      · have e : numD lo hi (.int i) = false := by show (decide (lo ≤ i) && _) = _; rw [Bool.not_eq_true _ |>.mp h1]; rfl
        rw [e] at q; exact q
    | bl b =>
      refine iteT ⟨_, rfl, _, .ty _, _, _, isBoolD _, rfl, .ty _, tyx_dp dp2, kit_bool dp2, _, rfl, _, rfl, iteF q⟩
    | non => exact iteF q
    | str _ => exact iteF q
    | lst _ _ => exact iteF q
    | tup _ _ => exact iteF q

abbrev s_is_name : Stmt := topS 3
def n_is_name : List Str := ["thing", "sign"]
theorem sc_is_name : FnScope n_is_name ["thing"] (defScope s_is_name) := ⟨rfl, rfl, rfl, by decide +kernel, rfl, by decide +kernel, by decide +kernel⟩
def spName (K : PySem.W.Frag) : Sp := fun vs H Q _ => ∃ (x : V) (d : PyData) (m : Nat), vs = [x] ∧ Dp K H x d ∧ gd m d ∧ ∀ H', Same H H' → Q (.bl (nameD d)) H'
theorem ok_name {f : Addr} {fd : FuncData} {k : Nat} (F : Fun K "is_name" "is_name" s_is_name f fd) (T : Txt mg) (L : Let mg) : FnOk P w K mg base CX0 (k + 1) f fd ["thing"] (spName K) := by
  refine F.ok sc_is_name (fun vs H Q E h => ?_) (fun cdv A outer s H vs Q E hr h => ?_)
  · obtain ⟨x, d, m, rfl, _⟩ := h
    rfl
  · obtain ⟨x, d, m, rfl, dp, hg, q⟩ := h
    obtain ⟨tL, hL⟩ := L
    have nd := sc_is_name.nd
    refine ⟨_, (pss_one (ps_ret (pe_and (pe_callB (kc_isi (K := K)) (by rfl) T.isinstance (by decide +kernel) (pa_cons (pv 0) (pa_cons (pe_bltn (v := .ty "str") (by rfl) T.str (by decide +kernel) rfl) pa_nil))) (pe_and (pe_chain op_le op_le pe_int (pe_callB (kc_len (K := K)) (by rfl) T.len PySem.boot_len (pa_cons (pv 0) pa_nil)) pe_int) (pe_one (pe_callB (kc_all (K := K)) (by rfl) T.all (by decide +kernel) (pa_cons (pe_lc (own := [("sign", 1)]) rfl nd (pi_str (pv 0)) (blkOk_by (N := n_is_name) (sc := defScope s_is_name) (by decide +kernel)) (fun _ _ _ _ _ => (pg_name (i := 1) nd rfl (.inl rfl))) (fun _ _ _ _ _ => pts_nil) (fun _ _ _ _ _ => (pe_cmpR op_in_sign (pv 1) (pe_glob (v := .str abc) (by rfl) hL ⟨tL, rfl⟩) rfl))) pa_nil))))))), ?_⟩
    refine ⟨_, rfl, _, .ty _, _, _, isStrD _, rfl, .ty _, tyx_dp dp, kit_str dp, _, rfl, ?_⟩
    cases dp with
    | str z =>
      refine iteT ?_
      have hz : z.length ≤ 2000 := hg.1
      have hcs : z.cps.toList.length = z.cps.size := Array.length_toList
      have lz : z.cps.size ≤ 2000 := hz
      refine ⟨_, rfl, _, _, rfl, ⟨by rw [sizeLine_eq]; omega, rfl⟩, _, _, rfl, rfl, _, rfl, ite2 (fun h1 => ?_) (fun h1 => ?_)⟩
      · refine ⟨_, _, rfl, rfl, _, rfl, ite2 (fun h2 => ?_) (fun h2 => ?_)⟩
        · have e0 : nameD (.str z) = z.cps.toList.all fun c => decide (c ∈ abc.cps.toList) := by
            show (decide _ && (decide _ && _)) = _
            rw [h1, h2]; rfl
          refine ⟨_, rfl, z, rfl, fun D nD => ?_⟩
          refine lc_it (walk_str (z := z)) (PvL H D fun i => ((z.cps.toList.map fun c => decide (c ∈ abc.cps.toList)).take i).map V.bl) (pv_start nD rfl) (fun _ _ _ _ => trivial) ?_ ?_
          · rintro i x H4 H5 hi p ⟨rfl, c, gc, rfl⟩
            refine ⟨rfl, tYes_at ?_⟩
            rw [if_pos rfl]
            refine ⟨_, rfl, c, _, rfl, rfl, ?_⟩
            exact pv_put nD p (Same.refl _) (take_map V.bl (by rw [List.getElem?_map, Array.getElem?_toList, gc]; rfl)) (take_len_le (by rw [List.length_map, hcs]; omega))
          · intro H4 p
            obtain ⟨s4, hD⟩ := pv_end p (take_all (by rw [List.length_map, hcs]; exact Nat.le_refl _))
            refine ⟨D, _, rfl, SqL.of hD, ?_⟩
            have ea : (z.cps.toList.map fun c => decide (c ∈ abc.cps.toList)).all id = z.cps.toList.all fun c => decide (c ∈ abc.cps.toList) := by rw [List.all_map]; rfl
            rw [ea]
            rw [e0] at q
            exact q _ s4
        · have e0 : nameD (.str z) = false := by
            show (decide _ && (decide _ && _)) = _
            rw [h1, Bool.not_eq_true _ |>.mp h2]; rfl
          rw [e0] at q
          exact q _ (Same.refl _)
      · have e0 : nameD (.str z) = false := by
          show (decide _ && (decide _ && _)) = _
          rw [Bool.not_eq_true _ |>.mp h1]; rfl
        rw [e0] at q
        exact ⟨_, rfl, iteF (q _ (Same.refl _))⟩
    | int _ => exact iteF (q _ (Same.refl _))
    | bl b => exact iteF (q _ (Same.refl _))
    | non => exact iteF (q _ (Same.refl _))
    | lst _ _ => exact iteF (q _ (Same.refl _))
    | tup _ _ => exact iteF (q _ (Same.refl _))
abbrev s_is_row : Stmt := topS 4
def n_is_row : List Str := ["thing", "size"]
theorem sc_is_row : FnScope n_is_row ["thing", "size"] (defScope s_is_row) := ⟨rfl, rfl, rfl, by decide +kernel, rfl, by decide +kernel, by decide +kernel⟩
def rowB (n : Int) : PyData → Bool
  | .tuple ds => decide (((ds.length : Nat) : Int) = n)
  | _ => false
def spRow (K : PySem.W.Frag) : Sp := fun vs H Q _ => ∃ (x : V) (d : PyData) (n : Int), vs = [x, .int n] ∧ Dp K H x d ∧ Q (.bl (rowB n d)) H
theorem ok_row {f : Addr} {fd : FuncData} {k : Nat} (F : Fun K "is_row" "is_row" s_is_row f fd) (T : Txt mg) : FnOk P w K mg base CX0 (k + 1) f fd ["thing", "size"] (spRow K) := by
  refine F.ok sc_is_row (fun vs H Q E h => ?_) (fun cdv A outer s H vs Q E hr h => ?_)
  · obtain ⟨x, d, n, rfl, _⟩ := h
    rfl
  · obtain ⟨x, d, n, rfl, dp, q⟩ := h
    have nd := sc_is_row.nd
    refine ⟨_, (pss_one (ps_ret (pe_and (pe_callB (kc_isi (K := K)) (by rfl) T.isinstance (by decide +kernel) (pa_cons (pv 0) (pa_cons (pe_bltn (v := .ty "tuple") (by rfl) T.tuple (by decide +kernel) rfl) pa_nil))) (pe_one (pe_cmpR op_eq (pe_callB (kc_len (K := K)) (by rfl) T.len PySem.boot_len (pa_cons (pv 0) pa_nil)) (pv 1) (nomark _)))))), ?_⟩
    refine ⟨_, rfl, _, .ty _, _, _, isTupD _, rfl, .ty _, tyx_dp dp, kit_tup dp, _, rfl, ?_⟩
    cases dp with
    | @tup a xs ds hS hx =>
      refine iteT ⟨_, rfl, _, _, rfl, .inr ⟨_, hS, rfl⟩, _, rfl, rfl, ?_⟩
      have lx := dpAll_len hx
      have e : rowB n (.tuple ds) = decide (V.int (xs.length : Nat) = V.int n) := by
        show decide _ = _
        rw [lx]
        exact decide_eq_decide.mpr ⟨fun h => by rw [h], V.int.inj⟩
      rw [e] at q; exact q
    | str z => exact iteF q
    | int _ => exact iteF q
    | bl b => exact iteF q
    | non => exact iteF q
    | lst _ _ => exact iteF q

/-! ### is_rising of texts -/
abbrev s_is_rising : Stmt := topS 5
def n_is_rising : List Str := ["keys", "one", "other"]
theorem sc_is_rising : FnScope n_is_rising ["keys"] (defScope s_is_rising) := ⟨rfl, rfl, rfl, by decide +kernel, rfl, by decide +kernel, by decide +kernel⟩
def spRis (K : PySem.W.Frag) : Sp := fun vs H Q _ => ∃ (a : Addr) (ns : List Str), vs = [.ref a] ∧ SqL K H a (ns.map V.str) ∧ ns.length ≤ 4000 ∧ ∀ H', Same H H' → Q (.bl (risS ns)) H'
theorem ok_ris {f : Addr} {fd : FuncData} {k : Nat} (F : Fun K "is_rising" "is_rising" s_is_rising f fd) (T : Txt mg) : FnOk P w K mg base CX0 (k + 1) f fd ["keys"] (spRis K) := by
  refine F.ok sc_is_rising (fun vs H Q E h => ?_) (fun cdv A outer s H vs Q E hr h => ?_)
  · obtain ⟨a, ns, rfl, _⟩ := h
    rfl
  · obtain ⟨a, ns, rfl, hS, h4, q⟩ := h
    have nd := sc_is_rising.nd
    refine ⟨_, (pss_one (ps_ret (pe_callB (kc_all (K := K)) (by rfl) T.all (by decide +kernel) (pa_cons (pe_lc (own := [("one", 1), ("other", 2)]) rfl nd (ki_zip (K := K) (by rfl) T.zip (pa_cons (pv 0) (pa_cons (pe_slice (kl_list (K := K)) (pv 0) (po_some pe_int) po_none) pa_nil))) (blkOk_by (N := n_is_rising) (sc := defScope s_is_rising) (by decide +kernel)) (fun _ _ _ _ _ => (kg_tup (K := K) (n := 2) (pgs_cons (pg_name (i := 1) nd rfl (.inl rfl)) (pgs_cons (pg_name (i := 2) nd rfl (.inl rfl)) pgs_nil)))) (fun _ _ _ _ _ => pts_nil) (fun _ _ _ _ _ => (pe_cmpR op_lt_str (pv 1) (pv 2) (nomark _)))) pa_nil)))), ?_⟩
    refine ⟨_, rfl, _, rfl, 1, rfl, a, _, rfl, hS, fun e ne => ?_⟩
    have ce : cutV (ns.map V.str) (some 1) none = (ns.drop 1).map V.str := by rw [show (1 : Int) = ((1 : Nat) : Int) from rfl, cut_tail, List.map_drop]
    have he : upd H e (.lst (cutV (ns.map V.str) (some 1) none)) e = some (.lst ((ns.drop 1).map V.str)) := by rw [upd_same, ce]
    have s1 := same_upd (o := .lst (cutV (ns.map V.str) (some 1) none)) ne
    generalize upd H e (.lst (cutV (ns.map V.str) (some 1) none)) = H1 at he s1 ⊢
    have hS := s1.seq hS
    refine ⟨a, e, _, _, rfl, .inl ⟨hS, SqL.of he, fun D nD => ?_⟩⟩
    refine lc_it (walk_zip (xs := ns.map V.str) (ys := (ns.drop 1).map V.str) (n := (rbS ns).length) (by rw [rbS_len, List.length_map, List.length_map, List.length_drop]; omega)) (PvL H1 D fun i => ((rbS ns).take i).map V.bl)
      (pv_start nD rfl) (fun i H2 _ h => ⟨h.1.seq hS, SqL.of (h.1 _ _ he)⟩) ?_ ?_
    · rintro i v H2 H3 hi p ⟨u, x1, y1, rfl, hu, rfl, gx, gy⟩
      replace gx : (ns.map V.str)[i]? = some x1 := gx
      replace gy : ((ns.drop 1).map V.str)[i]? = some y1 := gy
      rw [List.getElem?_map] at gx gy
      obtain ⟨x, gx1, rfl⟩ := Option.map_eq_some_iff.mp gx
      obtain ⟨y, gy1, rfl⟩ := Option.map_eq_some_iff.mp gy
      rw [List.getElem?_drop, Nat.add_comm] at gy1
      refine ⟨u, _, rfl, .inl (.inl upd_same), rfl, _, _, rfl, _, _, rfl, rfl, rfl, tYes_at ?_⟩
      rw [if_pos rfl]
      refine ⟨_, rfl, _, rfl, _, _, rfl, rfl, ?_⟩
      exact pv_put nD p (same_upd hu) (take_map V.bl (rbS_at gx1 gy1)) (take_len_le (by rw [rbS_len]; omega))
    · intro H2 p
      obtain ⟨sm, hD⟩ := pv_end p (take_all (Nat.le_refl _))
      refine ⟨D, _, rfl, SqL.of hD, ?_⟩
      exact q _ (s1.trans sm)


def kindD : PyData → Bool
  | .tuple [a, b, c] => nameD a && (numD 1 9 b && numD 1 99 c)
  | _ => false
theorem kind_not {d : PyData} (h : rowB 3 d = false) : kindD d = false := by
  unfold kindD
  split
  · exact absurd h (by show ¬ decide (((3 : Nat) : Int) = 3) = false; decide)
  · rfl
theorem row_three {d : PyData} (h : rowB 3 d = true) : ∃ a b c, d = .tuple [a, b, c] := by
  cases d with
  | tuple ds =>
    have l : ds.length = 3 := by have := of_decide_eq_true h; omega
    match ds, l with
    | [a, b, c], _ => exact ⟨a, b, c, rfl⟩
  | _ => cases h
abbrev s_is_kind : Stmt := topS 8
def n_is_kind : List Str := ["thing"]
theorem sc_is_kind : FnScope n_is_kind ["thing"] (defScope s_is_kind) := ⟨rfl, rfl, rfl, by decide +kernel, rfl, by decide +kernel, by decide +kernel⟩
def spKind (K : PySem.W.Frag) : Sp := fun vs H Q _ => ∃ (x : V) (d : PyData) (m : Nat), vs = [x] ∧ Dp K H x d ∧ gd m d ∧ ∀ H', Same H H' → Q (.bl (kindD d)) H'
theorem ok_kind {f : Addr} {fd : FuncData} {k : Nat} (F : Fun K "is_kind" "is_kind" s_is_kind f fd) (T : Txt mg) (c_is_row : Cl P w K mg base (k + 1) "is_row" (spRow K)) (c_is_name : Cl P w K mg base (k + 1) "is_name" (spName K)) (c_is_number : Cl P w K mg base (k + 1) "is_number" (spNum K)) : FnOk P w K mg base CX0 (k + 2) f fd ["thing"] (spKind K) := by
  refine F.ok sc_is_kind (fun vs H Q E h => ?_) (fun cdv A outer s H vs Q E hr h => ?_)
  · obtain ⟨x, d, m, rfl, _⟩ := h
    rfl
  · obtain ⟨x, d, m, rfl, dp, hg, q⟩ := h
    have nd := sc_is_kind.nd
    refine ⟨_, (pss_one (ps_ret (pe_and (pe_cl c_is_row hr (by omega) (by rfl) (pa_cons (pv 0) (pa_cons pe_int pa_nil))) (pe_and (pe_cl c_is_name hr (by omega) (by rfl) (pa_cons (pe_ix (kx_tup (K := K)) (pv 0) pe_int (fun _ _ => rfl)) pa_nil)) (pe_and (pe_cl c_is_number hr (by omega) (by rfl) (pa_cons (pe_ix (kx_tup (K := K)) (pv 0) pe_int (fun _ _ => rfl)) (pa_cons pe_int (pa_cons pe_int pa_nil)))) (pe_one (pe_cl c_is_number hr (by omega) (by rfl) (pa_cons (pe_ix (kx_tup (K := K)) (pv 0) pe_int (fun _ _ => rfl)) (pa_cons pe_int (pa_cons pe_int pa_nil)))))))))), ?_⟩
    refine ⟨_, rfl, x, d, 3, rfl, dp, _, rfl, ?_⟩
    cases hb : rowB 3 d with
    | false =>
      rw [kind_not hb] at q
      exact iteF (q _ (Same.refl _))
    | true =>
      obtain ⟨a, b, c, rfl⟩ := row_three hb
      obtain ⟨p, xs, rfl, hS, hx⟩ := dp_tup dp
      obtain ⟨xa, xb, xc, rfl, pa, pb2, pc⟩ := dp_three hx
      obtain ⟨ga, gb, gc, _⟩ := hg
      have rr : kindD (.tuple [a, b, c]) = (nameD a && (numD 1 9 b && numD 1 99 c)) := rfl
      rw [rr] at q
      refine iteT ⟨_, rfl, p, _, 0, _, rfl, rfl, hS, rfl, xa, a, m, rfl, pa, ga, fun H1 s1 => ⟨_, rfl, ?_⟩⟩
      cases ha : nameD a with
      | false => rw [ha] at q; exact iteF (q _ s1)
      | true =>
        rw [ha, Bool.true_and] at q
        refine iteT ⟨_, rfl, p, _, 1, _, rfl, rfl, same_tup s1 hS, rfl, xb, b, 1, 9, rfl, dp_same s1 pb2, ⟨_, rfl, ?_⟩⟩
        cases hbn : numD 1 9 b with
        | false => rw [hbn] at q; exact iteF (q _ s1)
        | true =>
          rw [hbn, Bool.true_and] at q
          exact iteT ⟨_, rfl, p, _, 2, _, rfl, rfl, same_tup s1 hS, rfl, xc, c, 1, 99, rfl, dp_same s1 pc, q _ s1⟩
def strOf : PyData → Str
  | .tuple (.str z :: _) => z
  | _ => ""
def kindsD : PyData → Bool
  | .tuple ds => decide ((1 : Int) ≤ (ds.length : Nat)) && (decide (((ds.length : Nat) : Int) ≤ 20) && (ds.all kindD && risS (ds.map strOf)))
  | _ => false
theorem name_str {d : PyData} (h : nameD d = true) : ∃ z, d = .str z := by
  cases d with
  | str z => exact ⟨z, rfl⟩
  | _ => cases h
/-- a kind: its first part is a text -/
theorem kind_dp {H : Hp} {x : V} {d : PyData} (h : kindD d = true) (dp : Dp K H x d) : ∃ (p : Addr) (xs : List V), x = .ref p ∧ SqT K H p xs ∧ atI xs 0 = some (.str (strOf d)) := by
  have hr : rowB 3 d = true := by
    cases hb : rowB 3 d with
    | true => rfl
    | false => rw [kind_not hb] at h; cases h
  obtain ⟨a, b, c, rfl⟩ := row_three hr
  obtain ⟨p, xs, rfl, hS, hx⟩ := dp_tup dp
  obtain ⟨xa, xb, xc, rfl, pa, pb2, pc⟩ := dp_three hx
  obtain ⟨h1, _⟩ := Bool.and_eq_true_iff.mp (show (nameD a && _) = true from h)
  obtain ⟨z, rfl⟩ := name_str h1
  cases pa
  exact ⟨p, _, rfl, hS, rfl⟩
/-- [row[0] for row in thing], of kinds -/
abbrev s_is_kinds : Stmt := topS 7
def n_is_kinds : List Str := ["thing", "row"]
theorem sc_is_kinds : FnScope n_is_kinds ["thing"] (defScope s_is_kinds) := ⟨rfl, rfl, rfl, by decide +kernel, rfl, by decide +kernel, by decide +kernel⟩
def spKinds (K : PySem.W.Frag) : Sp := fun vs H Q _ => ∃ (x : V) (d : PyData) (m : Nat), vs = [x] ∧ Dp K H x d ∧ gd m d ∧ widAll.wid d ≤ 4000 ∧ ∀ H', Same H H' → Q (.bl (kindsD d)) H'
theorem ok_kinds {f : Addr} {fd : FuncData} {k : Nat} (F : Fun K "is_kinds" "is_kinds" s_is_kinds f fd) (T : Txt mg) (c_is_kind : Cl P w K mg base (k + 2) "is_kind" (spKind K)) (c_is_rising : Cl P w K mg base (k + 1) "is_rising" (spRis K)) : FnOk P w K mg base CX0 (k + 3) f fd ["thing"] (spKinds K) := by
  refine F.ok sc_is_kinds (fun vs H Q E h => ?_) (fun cdv A outer s H vs Q E hr h => ?_)
  · obtain ⟨x, d, m, rfl, _⟩ := h
    rfl
  · obtain ⟨x, d, m, rfl, dp, hg, hw, q⟩ := h
    have nd := sc_is_kinds.nd
    refine ⟨_, (pss_one (ps_ret (pe_and (pe_callB (kc_isi (K := K)) (by rfl) T.isinstance (by decide +kernel) (pa_cons (pv 0) (pa_cons (pe_bltn (v := .ty "tuple") (by rfl) T.tuple (by decide +kernel) rfl) pa_nil))) (pe_and (pe_chain op_le op_le pe_int (pe_callB (kc_len (K := K)) (by rfl) T.len PySem.boot_len (pa_cons (pv 0) pa_nil)) pe_int) (pe_and (pe_callB (kc_all (K := K)) (by rfl) T.all (by decide +kernel) (pa_cons (pe_lc (own := [("row", 1)]) rfl nd (ki_tup (K := K) (pv 0)) (blkOk_by (N := n_is_kinds) (sc := defScope s_is_kinds) (by decide +kernel)) (fun _ _ _ _ _ => (pg_name (i := 1) nd rfl (.inl rfl))) (fun _ _ _ _ _ => pts_nil) (fun _ _ _ _ _ => (pe_cl c_is_kind hr (by omega) (by rfl) (pa_cons (pv 1) pa_nil)))) pa_nil)) (pe_one (pe_cl c_is_rising hr (by omega) (by rfl) (pa_cons (pe_lc (own := [("row", 1)]) rfl nd (ki_tup (K := K) (pv 0)) (blkOk_by (N := n_is_kinds) (sc := defScope s_is_kinds) (by decide +kernel)) (fun _ _ _ _ _ => (pg_name (i := 1) nd rfl (.inl rfl))) (fun _ _ _ _ _ => pts_nil) (fun _ _ _ _ _ => (pe_ix (kx_tup (K := K)) (pv 1) pe_int (fun _ _ => rfl)))) pa_nil)))))))), ?_⟩
    refine ⟨_, rfl, _, .ty _, _, _, isTupD _, rfl, .ty _, tyx_dp dp, kit_tup dp, _, rfl, ?_⟩
    cases dp with
    | @tup a xs ds hS hx =>
      have lx := dpAll_len hx
      have l4 : ds.length ≤ 4000 := Nat.le_trans (Nat.le_max_left ..) hw
      have rr : kindsD (.tuple ds) = (decide ((1 : Int) ≤ (ds.length : Nat)) && (decide (((ds.length : Nat) : Int) ≤ 20) && (ds.all kindD && risS (ds.map strOf)))) := rfl
      rw [rr, ← lx] at q
      refine iteT ⟨_, rfl, _, _, rfl, .inr ⟨_, hS, rfl⟩, _, _, rfl, rfl, _, rfl, ite2 (fun h1 => ?_) (fun h1 => ?_)⟩
      · rw [h1, Bool.true_and] at q
        refine ⟨_, _, rfl, rfl, _, rfl, ite2 (fun h2 => ?_) (fun h2 => ?_)⟩
        · rw [h2, Bool.true_and] at q
          refine ⟨_, rfl, a, rfl, ⟨_, hS⟩, fun D nD => ?_⟩
          refine lc_it (walk_tup (xs := xs)) (PvL H D fun i => ((ds.map kindD).take i).map V.bl) (pv_start nD rfl) (fun i H2 _ h => same_tup h.1 hS) ?_ ?_
          · rintro i y H4 H5 hi p ⟨rfl, gx⟩
            obtain ⟨e, ge, pe⟩ := dpAll_at hx gx
            refine ⟨rfl, tYes_at ?_⟩
            rw [if_pos rfl]
            refine ⟨_, rfl, y, e, m, rfl, dp_same p.1 pe, gdAll_iff.mp hg e (List.mem_of_getElem? ge), fun H6 s6 => ?_⟩
            exact pv_put nD p s6 (take_map V.bl (by rw [List.getElem?_map, ge]; rfl)) (take_len_le (by rw [List.length_map]; omega))
          · intro H4 p
            obtain ⟨s4, hD⟩ := pv_end p (take_all (by rw [List.length_map, lx]; exact Nat.le_refl _))
            refine ⟨D, _, rfl, SqL.of hD, ?_⟩
            rw [all_map]
            refine ⟨_, rfl, ?_⟩
            cases hall : ds.all kindD with
            | false =>
              rw [hall] at q
              exact iteF (q _ s4)
            | true =>
              rw [hall, Bool.true_and] at q
              have hk := List.all_eq_true.mp hall
              refine iteT ⟨_, rfl, a, rfl, ⟨_, same_tup s4 hS⟩, fun D2 nD2 => ?_⟩
              refine lc_it (walk_tup (xs := xs)) (PvL H4 D2 fun i => ((ds.map strOf).take i).map V.str) (pv_start nD2 rfl) (fun i H2 _ h => same_tup (s4.trans h.1) hS) ?_ ?_
              · rintro i y H5 H6 hi p2 ⟨rfl, gx⟩
                obtain ⟨e, ge, pe⟩ := dpAll_at hx gx
                obtain ⟨pp, ys, rfl, hy, h0⟩ := kind_dp (hk e (List.mem_of_getElem? ge)) (dp_same (s4.trans p2.1) pe)
                refine ⟨rfl, tYes_at ?_⟩
                rw [if_pos rfl]
                refine ⟨_, rfl, pp, _, 0, _, rfl, rfl, hy, h0, ?_⟩
                exact pv_put nD2 p2 (Same.refl _) (take_map V.str (by rw [List.getElem?_map, ge]; rfl)) (take_len_le (by rw [List.length_map]; omega))
              · intro H5 p2
                obtain ⟨s5, hD2⟩ := pv_end p2 (take_all (by rw [List.length_map, lx]; exact Nat.le_refl _))
                exact ⟨D2, _, rfl, SqL.of hD2, by rw [List.length_map]; exact l4, fun H6 s6 => q _ ((s4.trans s5).trans s6)⟩
        · rw [Bool.not_eq_true _ |>.mp h2] at q
          exact q _ (Same.refl _)
      · rw [Bool.not_eq_true _ |>.mp h1] at q
        exact ⟨_, rfl, iteF (q _ (Same.refl _))⟩
    | str z => exact iteF (q _ (Same.refl _))
    | int _ => exact iteF (q _ (Same.refl _))
    | bl b => exact iteF (q _ (Same.refl _))
    | non => exact iteF (q _ (Same.refl _))
    | lst _ _ => exact iteF (q _ (Same.refl _))

end
end Pot

namespace Pot
open PySem PySem.Spec PyProof.Rows L2
section
variable {P : Program} {w : World} {K : PySem.W.Frag} {mg : Str → Option Value} {base : Heap}
/-! ### _law_number: whether it's a number within bounds -/
abbrev s__law_number : Stmt := topS 16
def n__law_number : List Str := ["_law_thing", "_law_least", "_law_most"]
theorem sc__law_number : FnScope n__law_number ["_law_thing", "_law_least", "_law_most"] (defScope s__law_number) := ⟨rfl, rfl, rfl, by decide +kernel, rfl, by decide +kernel, by decide +kernel⟩
theorem ok_lnum {f : Addr} {fd : FuncData} {k : Nat} (F : Fun K "_law_number" "_law_number" s__law_number f fd) (T : Txt mg) : FnOk P w K mg base CX0 (k + 1) f fd ["_law_thing", "_law_least", "_law_most"] (spNum K) := by
  refine F.ok sc__law_number (fun vs H Q E h => ?_) (fun cdv A outer s H vs Q E hr h => ?_)
  · obtain ⟨x, d, lo, hi, rfl, _⟩ := h
    rfl
  · obtain ⟨x, d, lo, hi, rfl, dp, q⟩ := h
    have nd := sc__law_number.nd
    refine ⟨_, (pss_one (ps_ret (pe_and (pe_callB (kc_isi (K := K)) (by rfl) T.isinstance (by decide +kernel) (pa_cons (pv 0) (pa_cons (pe_bltn (v := .ty "int") (by rfl) T.int (by decide +kernel) rfl) pa_nil))) (pe_and (pe_not (pe_callB (kc_isi (K := K)) (by rfl) T.isinstance (by decide +kernel) (pa_cons (pv 0) (pa_cons (pe_bltn (v := .ty "bool") (by rfl) T.bool (by decide +kernel) rfl) pa_nil)))) (pe_one (pe_chain op_le op_le (pv 1) (pv 0) (pv 2))))))), ?_⟩
    refine ⟨_, rfl, _, .ty _, _, _, isIntD _, rfl, .ty _, tyx_dp dp, kit_int dp, _, rfl, ?_⟩
    have dp2 := dp
    cases dp with
    | int i =>
      refine iteT ⟨_, rfl, _, .ty _, _, _, isBoolD _, rfl, .ty _, tyx_dp dp2, kit_bool dp2, _, rfl, _, rfl, iteT ?_⟩
      refine ⟨_, rfl, _, rfl, _, _, rfl, rfl, _, rfl, ite2 (fun h1 => ⟨_, rfl, _, _, rfl, rfl, ?_⟩) (fun h1 => ?_)⟩
      · have e : numD lo hi (.int i) = decide (i ≤ hi) := by show (decide (lo ≤ i) && _) = _; rw [h1]; rfl
        rw [e] at q; exact q
      · have e : numD lo hi (.int i) = false := by show (decide (lo ≤ i) && _) = _; rw [Bool.not_eq_true _ |>.mp h1]; rfl
        rw [e] at q; exact q
    | bl b =>
      refine iteT ⟨_, rfl, _, .ty _, _, _, isBoolD _, rfl, .ty _, tyx_dp dp2, kit_bool dp2, _, rfl, _, rfl, iteF q⟩
    | non => exact iteF q
    | str _ => exact iteF q
    | lst _ _ => exact iteF q
    | tup _ _ => exact iteF q


abbrev s__law_name : Stmt := topS 17
def n__law_name : List Str := ["_law_thing"]
theorem sc__law_name : FnScope n__law_name ["_law_thing"] (defScope s__law_name) := ⟨rfl, rfl, rfl, by decide +kernel, rfl, by decide +kernel, by decide +kernel⟩
theorem ok_lname {f : Addr} {fd : FuncData} {k : Nat} (F : Fun K "_law_name" "_law_name" s__law_name f fd) (T : Txt mg) : FnOk P w K mg base CX0 (k + 1) f fd ["_law_thing"] (spName K) := by
  refine F.ok sc__law_name (fun vs H Q E h => ?_) (fun cdv A outer s H vs Q E hr h => ?_)
  · obtain ⟨x, d, m, rfl, _⟩ := h
    rfl
  · obtain ⟨x, d, m, rfl, dp, hg, q⟩ := h
    have nd := sc__law_name.nd
    have q := q _ (Same.refl _)
    refine ⟨_, (pss_one (ps_ret (pe_and (pe_callB (kc_isi (K := K)) (by rfl) T.isinstance (by decide +kernel) (pa_cons (pv 0) (pa_cons (pe_bltn (v := .ty "str") (by rfl) T.str (by decide +kernel) rfl) pa_nil))) (pe_and (pe_chain op_lt op_lt pe_int (pe_callB (kc_len (K := K)) (by rfl) T.len PySem.boot_len (pa_cons (pv 0) pa_nil)) pe_int) (pe_one (pe_cmpR op_eq (pe_bm PySem.F.plainAttrs_str PySem.F.slot_str_strip PySem.F.type_str_strip mt_stripChars (pv 0) (pa_cons pe_str pa_nil)) pe_str (nomark _))))))), ?_⟩
    refine ⟨_, rfl, _, .ty _, _, _, isStrD _, rfl, .ty _, tyx_dp dp, kit_str dp, _, rfl, ?_⟩
    cases dp with
    | str z =>
      have hz : z.length ≤ 2000 := hg.1
      have e0 : nameD (.str z) = (decide ((0 : Int) < (z.length : Nat)) && (decide (((z.length : Nat) : Int) < 9) && z.cps.toList.all fun c => decide (c ∈ abc.cps.toList))) := by
        show (decide _ && (decide _ && _)) = _
        rw [decide_eq_decide.mpr (show (1 : Int) ≤ (z.length : Nat) ↔ (0 : Int) < (z.length : Nat) by omega), decide_eq_decide.mpr (show ((z.length : Nat) : Int) ≤ 8 ↔ ((z.length : Nat) : Int) < 9 by omega)]
      rw [e0] at q
      refine iteT ⟨_, rfl, _, _, rfl, ⟨by rw [sizeLine_eq]; omega, rfl⟩, _, _, rfl, rfl, _, rfl, ite2 (fun h1 => ?_) (fun h1 => ?_)⟩
      · rw [h1, Bool.true_and] at q
        refine ⟨_, _, rfl, rfl, _, rfl, ite2 (fun h2 => ?_) (fun h2 => ?_)⟩
        · rw [h2, Bool.true_and] at q
          refine ⟨_, rfl, rfl, z, abc, rfl, rfl, (by rw [sizeLine_eq]; omega), rfl, ?_⟩

          rw [← strip_nil] at q
          exact q
        · rw [Bool.not_eq_true _ |>.mp h2] at q
          exact q
      · rw [Bool.not_eq_true _ |>.mp h1] at q
        exact ⟨_, rfl, iteF q⟩
    | int _ => exact iteF q
    | bl b => exact iteF q
    | non => exact iteF q
    | lst _ _ => exact iteF q
    | tup _ _ => exact iteF q
abbrev s__law_is_kind : Stmt := topS 18
def n__law_is_kind : List Str := ["_law_row"]
theorem sc__law_is_kind : FnScope n__law_is_kind ["_law_row"] (defScope s__law_is_kind) := ⟨rfl, rfl, rfl, by decide +kernel, rfl, by decide +kernel, by decide +kernel⟩
theorem ok_lkind {f : Addr} {fd : FuncData} {k : Nat} (F : Fun K "_law_is_kind" "_law_is_kind" s__law_is_kind f fd) (T : Txt mg) (c__law_name : Cl P w K mg base (k + 1) "_law_name" (spName K)) (c__law_number : Cl P w K mg base (k + 1) "_law_number" (spNum K)) : FnOk P w K mg base CX0 (k + 2) f fd ["_law_row"] (spKind K) := by
  refine F.ok sc__law_is_kind (fun vs H Q E h => ?_) (fun cdv A outer s H vs Q E hr h => ?_)
  · obtain ⟨x, d, m, rfl, _⟩ := h
    rfl
  · obtain ⟨x, d, m, rfl, dp, hg, q⟩ := h
    have nd := sc__law_is_kind.nd
    refine ⟨_, (pss_cons (ps_if ((pw_or (pt_not (pt_val (pe_callB (kc_isi (K := K)) (by rfl) T.isinstance (by decide +kernel) (pa_cons (pv 0) (pa_cons (pe_bltn (v := .ty "tuple") (by rfl) T.tuple (by decide +kernel) rfl) pa_nil))))) (pw_or (pt_cmpR op_ne (pe_callB (kc_len (K := K)) (by rfl) T.len PySem.boot_len (pa_cons (pv 0) pa_nil)) pe_int (nomark _)) (pw_or1 (pt_not (pt_val (pe_cl c__law_name hr (by omega) (by rfl) (pa_cons (pe_ix (kx_tup (K := K)) (pv 0) pe_int (fun _ _ => rfl)) pa_nil)))))))).pt
          (pss_one (ps_ret pe_bl))
          pss_nil)
      (pss_one (ps_ret (pe_and (pe_cl c__law_number hr (by omega) (by rfl) (pa_cons (pe_ix (kx_tup (K := K)) (pv 0) pe_int (fun _ _ => rfl)) (pa_cons pe_int (pa_cons pe_int pa_nil)))) (pe_one (pe_cl c__law_number hr (by omega) (by rfl) (pa_cons (pe_ix (kx_tup (K := K)) (pv 0) pe_int (fun _ _ => rfl)) (pa_cons pe_int (pa_cons pe_int pa_nil))))))))), ?_⟩
    refine ⟨_, rfl, _, .ty _, _, _, isTupD _, rfl, .ty _, tyx_dp dp, kit_tup dp, _, rfl, ?_⟩
    cases dp with
    | @tup p us es hS hx =>
      have lu := dpAll_len hx
      refine iteF ⟨_, rfl, _, _, rfl, .inr ⟨_, hS, rfl⟩, rfl, _, rfl, ?_⟩
      by_cases h3 : us.length = 3
      · obtain ⟨a, b, c, rfl⟩ : ∃ a b c, es = [a, b, c] := by
          match es, (show es.length = 3 by omega) with
          | [a, b, c], _ => exact ⟨a, b, c, rfl⟩
        obtain ⟨xa, xb, xc, rfl, pa, pb2, pc⟩ := dp_three hx
        obtain ⟨ga, gb, gc, _⟩ := hg
        have rr : kindD (.tuple [a, b, c]) = (nameD a && (numD 1 9 b && numD 1 99 c)) := rfl
        rw [rr] at q
        refine iteF ⟨_, rfl, p, _, 0, _, rfl, rfl, hS, rfl, xa, a, m, rfl, pa, ga, fun H1 s1 => ⟨_, rfl, ?_⟩⟩
        cases ha : nameD a with
        | false => rw [ha] at q; exact iteT (q _ s1)
        | true =>
          rw [ha, Bool.true_and] at q
          refine iteF ⟨_, rfl, p, _, 1, _, rfl, rfl, same_tup s1 hS, rfl, xb, b, 1, 9, rfl, dp_same s1 pb2, ⟨_, rfl, ?_⟩⟩
          cases hbn : numD 1 9 b with
          | false => rw [hbn] at q; exact iteF (q _ s1)
          | true =>
            rw [hbn, Bool.true_and] at q
            exact iteT ⟨_, rfl, p, _, 2, _, rfl, rfl, same_tup s1 hS, rfl, xc, c, 1, 99, rfl, dp_same s1 pc, q _ s1⟩
      · have e4 : (!decide (V.int ((us.length : Nat) : Int) = V.int 3)) = true := by
          rw [decide_eq_false (fun z => h3 (by have := V.int.inj z; omega))]; rfl
        have hn : kindD (.tuple es) = false := kind_not (by show decide _ = false; exact decide_eq_false (by omega))
        rw [hn] at q
        rw [e4]
        exact iteT (q _ (Same.refl _))
    | str z => exact iteT (q _ (Same.refl _))
    | int _ => exact iteT (q _ (Same.refl _))
    | bl b => exact iteT (q _ (Same.refl _))
    | non => exact iteT (q _ (Same.refl _))
    | lst _ _ => exact iteT (q _ (Same.refl _))
theorem strs_shapedA {zs : List Str} (h : ∀ z ∈ zs, z.length ≤ 2000 ∧ ∀ c ∈ z.cps.toList, c < 1114112) : SeqAt.shaped (.list (zs.map PyData.str)) = true := by
  have g : gd 0 (.list (zs.map PyData.str)) := gdAll_iff.mpr fun d hd => by
    obtain ⟨z, hz, rfl⟩ := List.mem_map.mp hd
    exact h z hz
  refine gd_shaped g ?_
  show PyData.depthAll (zs.map PyData.str) + 1 ≤ 64
  have : PyData.depthAll (zs.map PyData.str) ≤ 1 := depthAll_iff.mpr fun d hd => by
    obtain ⟨z, hz, rfl⟩ := List.mem_map.mp hd
    simp [PyData.depth]
  omega
theorem dp_strs {H : Hp} : ∀ (zs : List Str), DpAll K H (zs.map V.str) (zs.map PyData.str)
  | [] => .nil
  | z :: zs => .cons (.str z) (dp_strs zs)
abbrev s__law_due : Stmt := topS 19
def n__law_due : List Str := ["_law_thing", "_law_names_here", "_law_row"]
theorem sc__law_due : FnScope n__law_due ["_law_thing"] (defScope s__law_due) := ⟨rfl, rfl, rfl, by decide +kernel, rfl, by decide +kernel, by decide +kernel⟩
theorem ok_due {f : Addr} {fd : FuncData} {k : Nat} (F : Fun K "_law_due" "_law_due" s__law_due f fd) (T : Txt mg) (c__law_is_kind : Cl P w K mg base (k + 2) "_law_is_kind" (spKind K)) : FnOk P w K mg base CX0 (k + 3) f fd ["_law_thing"] (spKinds K) := by
  refine F.ok sc__law_due (fun vs H Q E h => ?_) (fun cdv A outer s H vs Q E hr h => ?_)
  · obtain ⟨x, d, m, rfl, _⟩ := h
    rfl
  · obtain ⟨x, d, m, rfl, dp, hg, hw, q⟩ := h
    have nd := sc__law_due.nd
    have hu64 := hr.units
    refine ⟨_, (pss_cons (ps_if ((pw_or (pt_not (pt_val (pe_callB (kc_isi (K := K)) (by rfl) T.isinstance (by decide +kernel) (pa_cons (pv 0) (pa_cons (pe_bltn (v := .ty "tuple") (by rfl) T.tuple (by decide +kernel) rfl) pa_nil))))) (pw_or (pt_not (pt_chain op_lt op_lt pe_int (pe_callB (kc_len (K := K)) (by rfl) T.len PySem.boot_len (pa_cons (pv 0) pa_nil)) pe_int)) (pw_or1 (pt_not (pt_val (pe_callB (kc_all (K := K)) (by rfl) T.all (by decide +kernel) (pa_cons (pe_lc (own := [("_law_row", 2)]) rfl nd (ki_tup (K := K) (pv 0)) (blkOk_by (N := n__law_due) (sc := defScope s__law_due) (by decide +kernel)) (fun _ _ _ _ _ => (pg_name (i := 2) nd rfl (.inl rfl))) (fun _ _ _ _ _ => pts_nil) (fun _ _ _ _ _ => (pe_cl c__law_is_kind hr (by omega) (by rfl) (pa_cons (pv 2) pa_nil)))) pa_nil)))))))).pt
          (pss_one (ps_ret pe_bl))
          pss_nil)
      (pss_cons (ps_setLc (i := 1) (own := [("_law_row", 2)]) rfl nd rfl rfl (sw_true rfl rfl rfl (by decide +kernel)) (ki_tup (K := K) (pv 0)) (blkOk_by (N := n__law_due) (sc := defScope s__law_due) (by decide +kernel)) (fun _ _ _ _ _ => (pg_name (i := 2) nd rfl (.inl rfl))) (fun _ _ _ _ _ => pts_nil) (fun _ _ _ _ _ => (pe_ix (kx_tup (K := K)) (pv 2) pe_int (fun _ _ => rfl))))
      (pss_one (ps_ret (pe_cmpR (ko_eq (K := K) hu64) (pv 1) (pe_callB (kc_sortedSs (P := P) (w := w)) (by rfl) T.sorted (by decide +kernel) (pa_cons (pe_callTy (kc_setLs (K := K) (P := P) (w := w)) (by rfl) T.set (by decide +kernel) (pa_cons (pv 1) pa_nil)) pa_nil)) (nomark _)))))), ?_⟩
    refine ⟨_, rfl, _, .ty _, _, _, isTupD _, rfl, .ty _, tyx_dp dp, kit_tup dp, _, rfl, ?_⟩
    cases dp with
    | @tup a xs ds hS hx =>
      have lx := dpAll_len hx
      have l4 : ds.length ≤ 4000 := Nat.le_trans (Nat.le_max_left ..) hw
      have rr : kindsD (.tuple ds) = (decide ((0 : Int) < (ds.length : Nat)) && (decide (((ds.length : Nat) : Int) < 21) && (ds.all kindD && risS (ds.map strOf)))) := by
        show (decide _ && (decide _ && _)) = _
        rw [decide_eq_decide.mpr (show (1 : Int) ≤ (ds.length : Nat) ↔ (0 : Int) < (ds.length : Nat) by omega), decide_eq_decide.mpr (show ((ds.length : Nat) : Int) ≤ 20 ↔ ((ds.length : Nat) : Int) < 21 by omega)]
      rw [rr, ← lx] at q
      refine iteF ⟨_, rfl, _, _, rfl, .inr ⟨_, hS, rfl⟩, _, _, rfl, rfl, _, rfl, ite2 (fun h1 => ?_) (fun h1 => ?_)⟩
      · rw [h1, Bool.true_and] at q
        refine ⟨_, _, rfl, rfl, _, rfl, ?_⟩
        cases h2 : decide (((xs.length : Nat) : Int) < 21) with
        | true =>
          rw [h2, Bool.true_and] at q
          have l20 : xs.length < 21 := by have := of_decide_eq_true h2; omega
          refine iteF ⟨_, rfl, a, rfl, ⟨_, hS⟩, fun D nD => ?_⟩
          refine lc_it (walk_tup (xs := xs)) (PvL H D fun i => ((ds.map kindD).take i).map V.bl) (pv_start nD rfl) (fun i H2 _ h => same_tup h.1 hS) ?_ ?_
          · rintro i y H4 H5 hi p ⟨rfl, gx⟩
            obtain ⟨e, ge, pe⟩ := dpAll_at hx gx
            refine ⟨rfl, tYes_at ?_⟩
            rw [if_pos rfl]
            refine ⟨_, rfl, y, e, m, rfl, dp_same p.1 pe, gdAll_iff.mp hg e (List.mem_of_getElem? ge), fun H6 s6 => ?_⟩
            exact pv_put nD p s6 (take_map V.bl (by rw [List.getElem?_map, ge]; rfl)) (take_len_le (by rw [List.length_map]; omega))
          intro H4 p
          obtain ⟨s4, hD⟩ := pv_end p (take_all (by rw [List.length_map, lx]; exact Nat.le_refl _))
          refine ⟨D, _, rfl, SqL.of hD, _, rfl, ?_⟩
          rw [all_map]
          cases hall : ds.all kindD with
          | false =>
            rw [hall] at q
            exact iteT (q _ s4)
          | true =>
            rw [hall, Bool.true_and] at q
            have hk := List.all_eq_true.mp hall
            refine iteF ⟨_, rfl, a, rfl, ⟨_, same_tup s4 hS⟩, fun D2 nD2 => ?_⟩
            refine lc_it (walk_tup (xs := xs)) (PvL H4 D2 fun i => ((ds.map strOf).take i).map V.str) (pv_start nD2 rfl) (fun i H2 _ h => same_tup (s4.trans h.1) hS) ?_ ?_
            · rintro i y H5 H6 hi p2 ⟨rfl, gx⟩
              obtain ⟨e, ge, pe⟩ := dpAll_at hx gx
              obtain ⟨pp, ys, rfl, hy, h0⟩ := kind_dp (hk e (List.mem_of_getElem? ge)) (dp_same (s4.trans p2.1) pe)
              refine ⟨rfl, tYes_at ?_⟩
              rw [if_pos rfl]
              refine ⟨_, rfl, pp, _, 0, _, rfl, rfl, hy, h0, ?_⟩
              exact pv_put nD2 p2 (Same.refl _) (take_map V.str (by rw [List.getElem?_map, ge]; rfl)) (take_len_le (by rw [List.length_map]; omega))
            intro H5 p2
            obtain ⟨s5, hD2⟩ := pv_end p2 (take_all (by rw [List.length_map, lx]; exact Nat.le_refl _))
            have ld : ds.length < 21 := by omega
            refine ⟨_, rfl, _, rfl, D2, _, rfl, SqL.of hD2, by rw [List.length_map]; omega, fun p3 n3 => ?_⟩
            have s6 := same_upd (o := SetSO P w p3 (setL (ds.map strOf))) n3
            have f3 : upd H5 p3 (SetSO P w p3 (setL (ds.map strOf))) p3 = _ := upd_same
            generalize upd H5 p3 (SetSO P w p3 (setL (ds.map strOf))) = H6 at s6 f3 ⊢
            have hl : (setL (ds.map strOf)).length < 64 := by have := setL_len (ds.map strOf); rw [List.length_map] at this; omega
            refine ⟨p3, _, rfl, f3, hl, fun ys p4 pm so n4 => ?_⟩
            have s7 := same_upd (o := .lst (ys.map V.str)) n4
            have f4 : upd H6 p4 (.lst (ys.map V.str)) p4 = _ := upd_same
            generalize upd H6 p4 (.lst (ys.map V.str)) = H7 at s7 f4 ⊢
            have ok1 : ∀ z ∈ ds.map strOf, z.length ≤ 2000 ∧ ∀ c ∈ z.cps.toList, c < 1114112 := fun z hz => by
              obtain ⟨e, he, rfl⟩ := List.mem_map.mp hz
              have hr : rowB 3 e = true := by
                cases hb : rowB 3 e with
                | true => rfl
                | false => have := hk e he; rw [kind_not hb] at this; cases this
              obtain ⟨a1, b1, c1, rfl⟩ := row_three hr
              obtain ⟨h5, _⟩ := Bool.and_eq_true_iff.mp (show (nameD a1 && _) = true from hk _ he)
              obtain ⟨z, rfl⟩ := name_str h5
              exact (gdAll_iff.mp hg _ he).1
            refine ⟨_, _, .lst (SqL.of ((s6.trans s7) _ _ hD2)) (dp_strs _), .lst (SqL.of f4) (dp_strs _), strs_shapedA ok1, strs_shapedA (fun z hz => ok1 z (mem_setL.mp (pm.mem_iff.mp hz))), ?_⟩
            rw [eqv_strs, eq_sortedS pm so]
            exact q _ ((s4.trans s5).trans (s6.trans s7))
        | false =>
          rw [h2] at q
          exact iteT (q _ (Same.refl _))
      · rw [Bool.not_eq_true _ |>.mp h1] at q
        exact ⟨_, rfl, iteT (q _ (Same.refl _))⟩
    | str z => exact iteT (q _ (Same.refl _))
    | int _ => exact iteT (q _ (Same.refl _))
    | bl b => exact iteT (q _ (Same.refl _))
    | non => exact iteT (q _ (Same.refl _))
    | lst _ _ => exact iteT (q _ (Same.refl _))

end
end Pot

namespace Pot
open PySem PySem.Spec PyProof.Rows L2
section
variable {P : Program} {w : World} {K : PySem.W.Frag} {mg : Str → Option Value} {base : Heap}
/-! ### _law_other -/
theorem tnb_len {x : V} {i : Int} (h : nB x = some i) (k : i.natAbs < 10 ^ 11) : (tNB x).length ≤ 12 := by
  cases x with
  | int j => cases h; exact text_small k
  | bl b => cases b <;> decide +kernel
  | _ => cases h
theorem num_of {K : PySem.W.Frag} {H : Hp} {x : V} {e : PyData} {n m C D W : Nat} (dp : Dp K H x e) (h : isIntD e = true) (b : Bd n m C D W e) : ∃ i, nB x = some i ∧ i.natAbs ≤ m + 1 ∧ isStrD e = false ∧ Bd n m 1921 0 0 e := by
  cases dp with
  | int i => exact ⟨i, rfl, Nat.le_succ_of_le b.t.g, rfl, bd_int b.t.g⟩
  | bl bb =>
    refine ⟨if bb = true then 1 else 0, rfl, ?_, rfl, (bd_bool bb).mono (Nat.le_refl _) (Nat.le_refl _) (by decide) (Nat.le_refl _) (Nat.le_refl _)⟩
    cases bb
    · exact Nat.zero_le _
    · exact Nat.succ_le_succ (Nat.zero_le m)
  | _ => cases h
theorem str_of {K : PySem.W.Frag} {H : Hp} {x : V} {e : PyData} (dp : Dp K H x e) (h : isStrD e = true) : ∃ z, x = .str z ∧ e = .str z := by
  cases dp with
  | str z => exact ⟨z, rfl, rfl⟩
  | _ => cases h
theorem tnb_ascii {x : V} {i : Int} (h : nB x = some i) : ∀ c ∈ (tNB x).cps.toList, c < 128 := by
  cases x with
  | int j => exact text_ascii j
  | bl b => cases b <;> exact ascii_of (by decide +kernel)
  | _ => cases h
def Gd (K : PySem.W.Frag) (H : Hp) (n m C : Nat) (x : V) : Prop := ∃ e, Dp K H x e ∧ Bd n m C 1 1 e
theorem Gd.same {K : PySem.W.Frag} {H H' : Hp} {n m C : Nat} {x : V} (s : Same H H') (h : Gd K H n m C x) : Gd K H' n m C x := by
  obtain ⟨e, a, b⟩ := h
  exact ⟨e, dp_same s a, b⟩
theorem gds_same {K : PySem.W.Frag} {H H' : Hp} {n m C : Nat} {xs : List V} (s : Same H H') (h : ∀ x ∈ xs, Gd K H n m C x) : ∀ x ∈ xs, Gd K H' n m C x := fun x hx => (h x hx).same s
theorem gds_app {K : PySem.W.Frag} {H : Hp} {n m C : Nat} {xs ys : List V} (h : ∀ x ∈ xs, Gd K H n m C x) (k : ∀ x ∈ ys, Gd K H n m C x) : ∀ x ∈ xs ++ ys, Gd K H n m C x := fun x hx => (List.mem_append.mp hx).elim (h x) (k x)
def spOther (K : PySem.W.Frag) : Sp := fun vs H Q _ => ∃ (d c L : Addr) (S : List Addr) (cnt : Nat) (x : V) (e : PyData) (n m C D W : Nat) (ys : List Str), vs = [.ref d, x, .ref L] ∧ StAt H d c cnt ∧ cnt < 2 ^ 39 ∧ d ∈ S ∧ c ∈ S ∧ Live S H ∧ Dp K (off H S) x e ∧ off H S L = some (.lst (ys.map V.str)) ∧ (∀ y ∈ ys, Nm y) ∧ ys.length ≤ 30 ∧ Bd n m C D W e ∧ 9 ≤ n ∧ n ≤ 500 ∧ m ≤ 10 ^ 10 ∧
  ∀ (H' : Hp) (y : V) (e' : PyData), StAt H' d c (cnt + 1) → Sm [d, c] H H' → Dp K (off H' S) y e' → Bd (n + 12) (m + 1000000) (10 * n + 3000) 1 1 e' → Q y H'
abbrev s__law_other : Stmt := topS 14
def n__law_other : List Str := ["_law_state", "_law_thing", "_law_names_here", "_law_some_here"]
theorem sc__law_other : FnScope n__law_other ["_law_state", "_law_thing", "_law_names_here"] (defScope s__law_other) := ⟨rfl, rfl, rfl, by decide +kernel, rfl, by decide +kernel, by decide +kernel⟩
set_option maxHeartbeats 4000000 in
theorem ok_other {f : Addr} {fd : FuncData} {k : Nat} (F : Fun K "_law_other" "_law_other" s__law_other f fd) (T : Txt mg) (c__law_some : Cl P w K mg base (k + 2) "_law_some" (spSome K)) : FnOk P w K mg base CX0 (k + 3) f fd ["_law_state", "_law_thing", "_law_names_here"] (spOther K) := by
  refine F.ok sc__law_other (fun vs H Q E h => ?_) (fun cdv A outer s H vs Q E hr h => ?_)
  · obtain ⟨d, c, L, S, cnt, x, e, n, m, C, D, W, ys, rfl, _⟩ := h
    rfl
  · obtain ⟨d, c, L, S, cnt, x, e, n, m, C, D, W, ys, rfl, B, hn, hd, hc, lv, dp, fL, hy, ly, bd, n9, n5, m9, q⟩ := h
    have nd := sc__law_other.nd
    /- 0 _law_state, 1 _law_thing, 2 _law_names_here, 3 _law_some_here -/
    refine ⟨_, (pss_cons (ps_set (i := 3) nd rfl (.inl rfl) (pe_lst (pa_cons pe_non (pa_cons pe_bl (pa_cons pe_bl (pa_cons pe_str (pa_cons pe_str (pa_cons pe_str (pa_cons pe_str (pa_cons pe_str (pa_cons (pe_tup pa_nil) (pa_cons (pe_lst pa_nil) (pa_cons (pe_tup (pa_cons pe_int pa_nil)) (pa_cons pe_int (pa_cons (pe_un un_neg pe_int) (pa_cons (pe_op op_pow pe_int pe_int) (pa_cons pe_str pa_nil)))))))))))))))))
      (pss_cons (ps_if (pt_val (pe_callB (kc_isi (K := K)) (by rfl) T.isinstance (by decide +kernel) (pa_cons (pv 1) (pa_cons (pe_bltn (v := .ty "int") (by rfl) T.int (by decide +kernel) rfl) pa_nil))))
          (pss_cons (ps_set (i := 3) nd rfl (.inl rfl) (pe_op op_cat (pv 3) (pe_lst (pa_cons (pe_op op_addB (pv 1) pe_int) (pa_cons (pe_op op_subB (pv 1) pe_int) (pa_cons (pe_op op_addB (pv 1) pe_int) (pa_cons (pe_op op_subB (pv 1) pe_int) (pa_cons (pe_op op_subR pe_int (pv 1)) (pa_cons (pe_callTy call_strB (by rfl) T.str (by decide +kernel) (pa_cons (pv 1) pa_nil)) (pa_cons (pe_tup (pa_cons (pv 1) pa_nil)) (pa_cons (pe_lst (pa_cons (pv 1) pa_nil)) pa_nil)))))))))))
          (pss_one (ps_set (i := 3) nd rfl (.inl rfl) (pe_op op_cat (pv 3) (pe_lst (pa_cons pe_int (pa_cons pe_int (pa_cons pe_int (pa_cons pe_int (pa_cons pe_int (pa_cons pe_int (pa_cons pe_int (pa_cons pe_int (pa_cons pe_int pa_nil))))))))))))))
          pss_nil)
      (pss_cons (ps_if (pt_val (pe_callB (kc_isi (K := K)) (by rfl) T.isinstance (by decide +kernel) (pa_cons (pv 1) (pa_cons (pe_bltn (v := .ty "str") (by rfl) T.str (by decide +kernel) rfl) pa_nil))))
          (pss_one (ps_set (i := 3) nd rfl (.inl rfl) (pe_op op_cat (pe_op op_cat (pe_op op_cat (pv 3) (pe_lst (pa_cons (pe_op op_add_str (pv 1) pe_str) (pa_cons (pe_slice sl_str (pv 1) po_none (po_some (pe_un un_neg pe_int))) (pa_cons (pe_upper (pv 1)) (pa_cons (pe_op op_add_str (pv 1) pe_str) (pa_cons (pe_lst (pa_cons (pv 1) pa_nil)) (pa_cons (pe_tup (pa_cons (pv 1) pa_nil)) pa_nil)))))))) (pv 2)) (pv 2))))
          pss_nil)
      (pss_one (ps_ret (pe_cl c__law_some hr (by omega) (by rfl) (pa_cons (pv 0) (pa_cons (pv 3) pa_nil)))))))), ?_⟩
    have sc : Sm [d, c] H H := Same.refl _
    refine ⟨Nat.zero_le _, fun p1 np1 => ?_⟩
    have fp1 := off_new (o := .tup []) lv np1
    have lv := lv.put (o := .tup []) np1
    have B := B.same (same_upd (o := .tup []) np1)
    have sc := sc.trans (sm_put (S := [d, c]) (o := .tup []) np1)
    have fL := (sm_put (S := S) (o := .tup []) np1) _ _ fL
    have dp := dp_same ((sm_put (S := S) (o := .tup []) np1)) dp
    generalize upd H p1 (.tup []) = T1 at fp1 lv B sc fL dp ⊢
    refine ⟨Nat.zero_le _, fun p2 np2 => ?_⟩
    have fp2 := off_new (o := .lst []) lv np2
    have lv := lv.put (o := .lst []) np2
    have B := B.same (same_upd (o := .lst []) np2)
    have sc := sc.trans (sm_put (S := [d, c]) (o := .lst []) np2)
    have fp1 := (sm_put (S := S) (o := .lst []) np2) _ _ fp1
    have fL := (sm_put (S := S) (o := .lst []) np2) _ _ fL
    have dp := dp_same ((sm_put (S := S) (o := .lst []) np2)) dp
    generalize upd T1 p2 (.lst []) = T2 at fp2 lv B sc fp1 fL dp ⊢
    refine ⟨(by show 1 ≤ sizeLine; decide), fun p3 np3 => ?_⟩
    have fp3 := off_new (o := .tup [.int 0]) lv np3
    have lv := lv.put (o := .tup [.int 0]) np3
    have B := B.same (same_upd (o := .tup [.int 0]) np3)
    have sc := sc.trans (sm_put (S := [d, c]) (o := .tup [.int 0]) np3)
    have fp1 := (sm_put (S := S) (o := .tup [.int 0]) np3) _ _ fp1
    have fp2 := (sm_put (S := S) (o := .tup [.int 0]) np3) _ _ fp2
    have fL := (sm_put (S := S) (o := .tup [.int 0]) np3) _ _ fL
    have dp := dp_same ((sm_put (S := S) (o := .tup [.int 0]) np3)) dp
    generalize upd T2 p3 (.tup [.int 0]) = T3 at fp3 lv B sc fp1 fp2 fL dp ⊢
    refine ⟨1, rfl, _, _, rfl, rfl, ⟨by decide, by decide, by decide⟩, (by show 15 ≤ sizeLine; decide), fun p4 np4 => ?_⟩
    have fp4 := off_new (o := .lst [.non, .bl true, .bl false, .str "", .str "a1", .str "Ab", .str "abcdefghi", .str "a b", .ref p1, .ref p2, .ref p3, .int 0, .int (-1), .int (10 ^ Int.toNat 6), .str "never"]) lv np4
    have lv := lv.put (o := .lst [.non, .bl true, .bl false, .str "", .str "a1", .str "Ab", .str "abcdefghi", .str "a b", .ref p1, .ref p2, .ref p3, .int 0, .int (-1), .int (10 ^ Int.toNat 6), .str "never"]) np4
    have B := B.same (same_upd (o := .lst [.non, .bl true, .bl false, .str "", .str "a1", .str "Ab", .str "abcdefghi", .str "a b", .ref p1, .ref p2, .ref p3, .int 0, .int (-1), .int (10 ^ Int.toNat 6), .str "never"]) np4)
    have sc := sc.trans (sm_put (S := [d, c]) (o := .lst [.non, .bl true, .bl false, .str "", .str "a1", .str "Ab", .str "abcdefghi", .str "a b", .ref p1, .ref p2, .ref p3, .int 0, .int (-1), .int (10 ^ Int.toNat 6), .str "never"]) np4)
    have fp1 := (sm_put (S := S) (o := .lst [.non, .bl true, .bl false, .str "", .str "a1", .str "Ab", .str "abcdefghi", .str "a b", .ref p1, .ref p2, .ref p3, .int 0, .int (-1), .int (10 ^ Int.toNat 6), .str "never"]) np4) _ _ fp1
    have fp2 := (sm_put (S := S) (o := .lst [.non, .bl true, .bl false, .str "", .str "a1", .str "Ab", .str "abcdefghi", .str "a b", .ref p1, .ref p2, .ref p3, .int 0, .int (-1), .int (10 ^ Int.toNat 6), .str "never"]) np4) _ _ fp2
    have fp3 := (sm_put (S := S) (o := .lst [.non, .bl true, .bl false, .str "", .str "a1", .str "Ab", .str "abcdefghi", .str "a b", .ref p1, .ref p2, .ref p3, .int 0, .int (-1), .int (10 ^ Int.toNat 6), .str "never"]) np4) _ _ fp3
    have fL := (sm_put (S := S) (o := .lst [.non, .bl true, .bl false, .str "", .str "a1", .str "Ab", .str "abcdefghi", .str "a b", .ref p1, .ref p2, .ref p3, .int 0, .int (-1), .int (10 ^ Int.toNat 6), .str "never"]) np4) _ _ fL
    have dp := dp_same ((sm_put (S := S) (o := .lst [.non, .bl true, .bl false, .str "", .str "a1", .str "Ab", .str "abcdefghi", .str "a b", .ref p1, .ref p2, .ref p3, .int 0, .int (-1), .int (10 ^ Int.toNat 6), .str "never"]) np4)) dp
    generalize upd T3 p4 (.lst [.non, .bl true, .bl false, .str "", .str "a1", .str "Ab", .str "abcdefghi", .str "a b", .ref p1, .ref p2, .ref p3, .int 0, .int (-1), .int (10 ^ Int.toNat 6), .str "never"]) = T4 at fp4 lv B sc fp1 fp2 fp3 fL dp ⊢
    have up : ∀ {n' m' C' D' W' : Nat} {dd : PyData}, Bd n' m' C' D' W' dd → n' ≤ n + 12 → m' ≤ m + 1000000 → C' ≤ 10 * n + 3000 → D' ≤ 1 → W' ≤ 1 → Bd (n + 12) (m + 1000000) (10 * n + 3000) 1 1 dd := fun h a b c d e => h.mono a b c d e
    obtain ⟨xs0, ex0⟩ : ∃ xs0, xs0 = [V.non, .bl true, .bl false, .str "", .str "a1", .str "Ab", .str "abcdefghi", .str "a b", .ref p1, .ref p2, .ref p3, .int 0, .int (-1), .int (10 ^ Int.toNat 6), .str "never"] := ⟨_, rfl⟩
    have gg0 : ∀ x ∈ xs0, Gd K (off T4 S) (n + 12) (m + 1000000) (10 * n + 3000) x := by
      rw [ex0]
      intro x hx
      have st : ∀ (z : String) (k : Nat), (Str.ofString z).length = k → k ≤ 9 → (Str.ofString z).cps.toList.all (fun c => decide (c < 128)) = true → Gd K (off T4 S) (n + 12) (m + 1000000) (10 * n + 3000) (.str (Str.ofString z)) := fun z k h1 h2 h3 =>
        ⟨_, .str _, up (n' := 9) (m' := 0) (bd_str (by omega) (by decide) (ascii_of h3)) (by omega) (by omega) (by omega) (by decide) (by decide)⟩
      simp only [List.mem_cons, List.not_mem_nil, or_false] at hx
      rcases hx with rfl | rfl | rfl | rfl | rfl | rfl | rfl | rfl | rfl | rfl | rfl | rfl | rfl | rfl | rfl
      · exact ⟨.none, .non, up (n' := 0) (m' := 0) bd_none (by omega) (by omega) (by omega) (by decide) (by decide)⟩
      · exact ⟨_, .bl _, up (n' := 0) (m' := 0) (bd_bool _) (by omega) (by omega) (by omega) (by decide) (by decide)⟩
      · exact ⟨_, .bl _, up (n' := 0) (m' := 0) (bd_bool _) (by omega) (by omega) (by omega) (by decide) (by decide)⟩
      · exact st "" 0 (by decide +kernel) (by decide) (by decide +kernel)
      · exact st "a1" 2 (by decide +kernel) (by decide) (by decide +kernel)
      · exact st "Ab" 2 (by decide +kernel) (by decide) (by decide +kernel)
      · exact st "abcdefghi" 9 (by decide +kernel) (by decide) (by decide +kernel)
      · exact st "a b" 3 (by decide +kernel) (by decide) (by decide +kernel)
      · exact ⟨.tuple [], .tup (.inl (.inl fp1)) .nil, up (n' := 0) (m' := 0) ((Bds.nil (D := 0)).tuple (Nat.zero_le 1)) (by omega) (by omega) (by omega) (by decide) (by decide)⟩
      · exact ⟨.list [], .lst (SqL.of fp2) .nil, up (n' := 0) (m' := 0) ((Bds.nil (D := 0)).list (Nat.zero_le 1)) (by omega) (by omega) (by omega) (by decide) (by decide)⟩
      · exact ⟨.tuple [.int 0], .tup (.inl (.inl fp3)) (.cons (.int _) .nil), up (n' := 0) (m' := 0) (((Bds.one (bd_int (by decide))).mono (Nat.le_refl _) (Nat.le_refl _) (Nat.le_refl _) (Nat.le_refl _) (Nat.zero_le 1)).tuple (by show 1 ≤ 1; decide)) (by omega) (by omega) (by omega) (by decide) (by decide)⟩
      · exact ⟨_, .int _, up (n' := 0) (m' := 0) (bd_int (by decide)) (by omega) (by omega) (by omega) (by decide) (by decide)⟩
      · exact ⟨_, .int _, up (n' := 0) (m' := 1) (bd_int (by decide)) (by omega) (by omega) (by omega) (by decide) (by decide)⟩
      · exact ⟨_, .int _, up (n' := 0) (m' := 1000000) (bd_int (by decide)) (by omega) (by omega) (by omega) (by decide) (by decide)⟩
      · exact st "never" 5 (by decide +kernel) (by decide) (by decide +kernel)
    have l0 : xs0.length = 15 := by rw [ex0]; rfl
    rw [← ex0] at fp4
    clear ex0
    have fin : ∀ (Hn : Hp) (p : Addr) (xs : List V), StAt Hn d c cnt → Sm [d, c] H Hn → off Hn S p = some (.lst xs) → (∀ x ∈ xs, Gd K (off Hn S) (n + 12) (m + 1000000) (10 * n + 3000) x) → 15 ≤ xs.length → xs.length ≤ 1000 →
        spSome K [.ref d, .ref p] Hn Q E := by
      intro Hn p xs Bn sn hp hg l1 l2
      refine ⟨d, c, p, cnt, xs, rfl, Bn, by omega, SqL.of (off_mono (S := S) (fun z hz => by
        rcases List.mem_cons.mp hz with e | e
        · rw [e]; exact hd
        · rw [List.mem_singleton.mp e]; exact hc) _ _ hp), (fun z => by rw [z] at l1; cases l1), l2, fun H' y hy B' s' => ?_⟩
      obtain ⟨ed, h1, h2⟩ := hg y hy
      exact q H' y ed B' (sn.trans s') (dp_same (sm_two hd hc s') h1) h2
    have dH := dp_off dp
    have cat9 : ∀ {z : Nat}, z ≤ 1000 → z ≤ sizeLine := fun h => by rw [sizeLine_eq]; omega
    refine ⟨_, rfl, _, .ty _, _, _, isIntD _, rfl, .ty _, tyx_dp dH, kit_int dH, _, rfl, ?_⟩
    cases hI : isIntD e with
    | true =>
      obtain ⟨i, nb, hi, hS, bx⟩ := num_of dp hI bd
      refine iteT ?_
      refine ⟨_, rfl, _, rfl, i, _, nb, rfl, _, rfl, i, _, nb, rfl, _, rfl, i, _, nb, rfl, _, rfl, i, _, nb, rfl, _, rfl, _, i, rfl, nb, _, rfl, _, i, rfl, nb, log_smallW (by omega), _, rfl, (by show 1 ≤ sizeLine; decide), fun q1 nq1 => ?_⟩
      have fq1 := off_new (o := .tup [x]) lv nq1
      have lv := lv.put (o := .tup [x]) nq1
      have B := B.same (same_upd (o := .tup [x]) nq1)
      have sc := sc.trans (sm_put (S := [d, c]) (o := .tup [x]) nq1)
      have fp4 := (sm_put (S := S) (o := .tup [x]) nq1) _ _ fp4
      have dp := dp_same ((sm_put (S := S) (o := .tup [x]) nq1)) dp
      have gg0 := gds_same ((sm_put (S := S) (o := .tup [x]) nq1)) gg0
      generalize upd T4 q1 (.tup [x]) = T5 at fq1 lv B sc fp4 dp gg0 ⊢
      refine ⟨_, rfl, (by show 1 ≤ sizeLine; decide), fun q2 nq2 => ?_⟩
      have fq2 := off_new (o := .lst [x]) lv nq2
      have lv := lv.put (o := .lst [x]) nq2
      have B := B.same (same_upd (o := .lst [x]) nq2)
      have sc := sc.trans (sm_put (S := [d, c]) (o := .lst [x]) nq2)
      have fp4 := (sm_put (S := S) (o := .lst [x]) nq2) _ _ fp4
      have fq1 := (sm_put (S := S) (o := .lst [x]) nq2) _ _ fq1
      have dp := dp_same ((sm_put (S := S) (o := .lst [x]) nq2)) dp
      have gg0 := gds_same ((sm_put (S := S) (o := .lst [x]) nq2)) gg0
      generalize upd T5 q2 (.lst [x]) = T6 at fq2 lv B sc fp4 fq1 dp gg0 ⊢
      refine ⟨(by show 8 ≤ sizeLine; decide), fun q3 nq3 => ?_⟩
      have fq3 := off_new (o := .lst [.int (i + 1), .int (i - 1), .int (i + 1), .int (i - 1), .int (0 - i), .str (tNB x), .ref q1, .ref q2]) lv nq3
      have lv := lv.put (o := .lst [.int (i + 1), .int (i - 1), .int (i + 1), .int (i - 1), .int (0 - i), .str (tNB x), .ref q1, .ref q2]) nq3
      have B := B.same (same_upd (o := .lst [.int (i + 1), .int (i - 1), .int (i + 1), .int (i - 1), .int (0 - i), .str (tNB x), .ref q1, .ref q2]) nq3)
      have sc := sc.trans (sm_put (S := [d, c]) (o := .lst [.int (i + 1), .int (i - 1), .int (i + 1), .int (i - 1), .int (0 - i), .str (tNB x), .ref q1, .ref q2]) nq3)
      have fp4 := (sm_put (S := S) (o := .lst [.int (i + 1), .int (i - 1), .int (i + 1), .int (i - 1), .int (0 - i), .str (tNB x), .ref q1, .ref q2]) nq3) _ _ fp4
      have fq1 := (sm_put (S := S) (o := .lst [.int (i + 1), .int (i - 1), .int (i + 1), .int (i - 1), .int (0 - i), .str (tNB x), .ref q1, .ref q2]) nq3) _ _ fq1
      have fq2 := (sm_put (S := S) (o := .lst [.int (i + 1), .int (i - 1), .int (i + 1), .int (i - 1), .int (0 - i), .str (tNB x), .ref q1, .ref q2]) nq3) _ _ fq2
      have dp := dp_same ((sm_put (S := S) (o := .lst [.int (i + 1), .int (i - 1), .int (i + 1), .int (i - 1), .int (0 - i), .str (tNB x), .ref q1, .ref q2]) nq3)) dp
      have gg0 := gds_same ((sm_put (S := S) (o := .lst [.int (i + 1), .int (i - 1), .int (i + 1), .int (i - 1), .int (0 - i), .str (tNB x), .ref q1, .ref q2]) nq3)) gg0
      generalize upd T6 q3 (.lst [.int (i + 1), .int (i - 1), .int (i + 1), .int (i - 1), .int (0 - i), .str (tNB x), .ref q1, .ref q2]) = T7 at fq3 lv B sc fp4 fq1 fq2 dp gg0 ⊢
      have gg1 : ∀ y ∈ [V.int (i + 1), .int (i - 1), .int (i + 1), .int (i - 1), .int (0 - i), .str (tNB x), .ref q1, .ref q2], Gd K (off T7 S) (n + 12) (m + 1000000) (10 * n + 3000) y := by
        intro y hx
        have nu : ∀ j : Int, j.natAbs ≤ m + 1000000 → Gd K (off T7 S) (n + 12) (m + 1000000) (10 * n + 3000) (.int j) := fun j h => ⟨_, .int _, up (n' := 0) (bd_int h) (by omega) (by omega) (by omega) (by decide) (by decide)⟩
        simp only [List.mem_cons, List.not_mem_nil, or_false] at hx
        rcases hx with rfl | rfl | rfl | rfl | rfl | rfl | rfl | rfl
        · exact nu _ (by omega)
        · exact nu _ (by omega)
        · exact nu _ (by omega)
        · exact nu _ (by omega)
        · exact nu _ (by omega)
        · exact ⟨_, .str _, up (n' := 12) (m' := 0) (bd_str (tnb_len nb (by omega)) (by decide) (tnb_ascii nb)) (by omega) (by omega) (by omega) (by decide) (by decide)⟩
        · exact ⟨_, .tup (.inl (.inl fq1)) (.cons dp .nil), up (n' := n) (((Bds.one bx).mono (Nat.le_refl _) (Nat.le_refl _) (Nat.le_refl _) (Nat.le_refl _) (Nat.zero_le 1)).tuple (by show 1 ≤ 1; decide)) (by omega) (by omega) (by omega) (by decide) (by decide)⟩
        · exact ⟨_, .lst (SqL.of fq2) (.cons dp .nil), up (n' := n) (((Bds.one bx).mono (Nat.le_refl _) (Nat.le_refl _) (Nat.le_refl _) (Nat.le_refl _) (Nat.zero_le 1)).list (by show 1 ≤ 1; decide)) (by omega) (by omega) (by omega) (by decide) (by decide)⟩
      refine ⟨p4, q3, _, _, rfl, rfl, at_off fp4, at_off fq3, cat9 (by rw [l0]; show _ + _ ≤ _; simp only [List.length_cons, List.length_nil]; decide), fun q4 nq4 => ?_⟩
      have gg2 := gds_app gg0 gg1
      obtain ⟨xs1, ex1⟩ : ∃ xs1, xs1 = xs0 ++ [V.int (i + 1), .int (i - 1), .int (i + 1), .int (i - 1), .int (0 - i), .str (tNB x), .ref q1, .ref q2] := ⟨_, rfl⟩
      have l1 : xs1.length = 23 := by rw [ex1, List.length_append, l0]; rfl
      rw [← ex1] at gg2 ⊢
      clear ex1 gg1 gg0
      have fq4 := off_new (o := .lst xs1) lv nq4
      have lv := lv.put (o := .lst xs1) nq4
      have B := B.same (same_upd (o := .lst xs1) nq4)
      have sc := sc.trans (sm_put (S := [d, c]) (o := .lst xs1) nq4)
      have dp := dp_same ((sm_put (S := S) (o := .lst xs1) nq4)) dp
      have gg2 := gds_same ((sm_put (S := S) (o := .lst xs1) nq4)) gg2
      generalize upd T7 q4 (.lst xs1) = T8 at fq4 lv B sc dp gg2 ⊢
      refine ⟨_, rfl, (by show 9 ≤ sizeLine; decide), fun q5 nq5 => ?_⟩
      have fq5 := off_new (o := .lst [.int 1, .int 9, .int 10, .int 20, .int 21, .int 99, .int 100, .int 999, .int 1000]) lv nq5
      have lv := lv.put (o := .lst [.int 1, .int 9, .int 10, .int 20, .int 21, .int 99, .int 100, .int 999, .int 1000]) nq5
      have B := B.same (same_upd (o := .lst [.int 1, .int 9, .int 10, .int 20, .int 21, .int 99, .int 100, .int 999, .int 1000]) nq5)
      have sc := sc.trans (sm_put (S := [d, c]) (o := .lst [.int 1, .int 9, .int 10, .int 20, .int 21, .int 99, .int 100, .int 999, .int 1000]) nq5)
      have fq4 := (sm_put (S := S) (o := .lst [.int 1, .int 9, .int 10, .int 20, .int 21, .int 99, .int 100, .int 999, .int 1000]) nq5) _ _ fq4
      have dp := dp_same ((sm_put (S := S) (o := .lst [.int 1, .int 9, .int 10, .int 20, .int 21, .int 99, .int 100, .int 999, .int 1000]) nq5)) dp
      have gg2 := gds_same ((sm_put (S := S) (o := .lst [.int 1, .int 9, .int 10, .int 20, .int 21, .int 99, .int 100, .int 999, .int 1000]) nq5)) gg2
      generalize upd T8 q5 (.lst [.int 1, .int 9, .int 10, .int 20, .int 21, .int 99, .int 100, .int 999, .int 1000]) = T9 at fq5 lv B sc fq4 dp gg2 ⊢
      have gg3 : ∀ y ∈ [V.int 1, .int 9, .int 10, .int 20, .int 21, .int 99, .int 100, .int 999, .int 1000], Gd K (off T9 S) (n + 12) (m + 1000000) (10 * n + 3000) y := by
        intro y hx
        have nu : ∀ j : Int, j.natAbs ≤ 1000 → Gd K (off T9 S) (n + 12) (m + 1000000) (10 * n + 3000) (.int j) := fun j h => ⟨_, .int _, up (n' := 0) (m' := 1000) (bd_int h) (by omega) (by omega) (by omega) (by decide) (by decide)⟩
        simp only [List.mem_cons, List.not_mem_nil, or_false] at hx
        rcases hx with rfl | rfl | rfl | rfl | rfl | rfl | rfl | rfl | rfl <;> exact nu _ (by decide)
      refine ⟨q4, q5, _, _, rfl, rfl, at_off fq4, at_off fq5, cat9 (by rw [l1]; decide), fun q6 nq6 => ?_⟩
      have gg4 := gds_app gg2 gg3
      obtain ⟨xs2, ex2⟩ : ∃ xs2, xs2 = xs1 ++ [V.int 1, .int 9, .int 10, .int 20, .int 21, .int 99, .int 100, .int 999, .int 1000] := ⟨_, rfl⟩
      have l2 : xs2.length = 32 := by rw [ex2, List.length_append, l1]; rfl
      rw [← ex2] at gg4 ⊢
      clear ex2 gg3 gg2
      have fq6 := off_new (o := .lst xs2) lv nq6
      have lv := lv.put (o := .lst xs2) nq6
      have B := B.same (same_upd (o := .lst xs2) nq6)
      have sc := sc.trans (sm_put (S := [d, c]) (o := .lst xs2) nq6)
      have dp := dp_same ((sm_put (S := S) (o := .lst xs2) nq6)) dp
      have gg4 := gds_same ((sm_put (S := S) (o := .lst xs2) nq6)) gg4
      generalize upd T9 q6 (.lst xs2) = T10 at fq6 lv B sc dp gg4 ⊢
      have dH := dp_off dp
      refine ⟨_, rfl, _, .ty _, _, _, isStrD _, rfl, .ty _, tyx_dp dH, kit_str dH, _, rfl, ?_⟩
      rw [hS]
      refine iteF ?_
      exact ⟨_, rfl, _, rfl, fin _ q6 xs2 B sc fq6 gg4 (by omega) (by omega)⟩
    | false =>
      refine iteF ?_
      refine ⟨_, rfl, _, .ty _, _, _, isStrD _, rfl, .ty _, tyx_dp dH, kit_str dH, _, rfl, ?_⟩
      cases hS : isStrD e with
      | true =>
        obtain ⟨z, rfl, rfl⟩ := str_of dp hS
        have hz : z.length ≤ n := bd.x.1
        have cz : ∀ x ∈ z.cps.toList, x < 128 := bd.x.2
        have hz2 : z.length ≤ sizeLine := by rw [sizeLine_eq]; omega
        have l1 : (Str.ofString "z").length = 1 := by decide +kernel
        have l2 : (Str.ofString " ").length = 1 := by decide +kernel
        have l3 := cut_small z none (some (-1))
        have l4 := upper_len cz
        refine iteT ?_
        refine ⟨_, rfl, _, rfl, _, _, rfl, rfl, (by rw [sizeLine_eq, l1]; omega), ?_⟩
        refine ⟨_, rfl, 1, rfl, _, rfl, z, rfl, hz2, _, rfl, ⟨_, rfl⟩, z, rfl, rfl, (by omega), _, rfl, _, _, rfl, rfl, (by rw [sizeLine_eq, l2]; omega), ?_⟩
        refine ⟨_, rfl, (by show 1 ≤ sizeLine; decide), fun q1 nq1 => ?_⟩
        have fq1 := off_new (o := .lst [.str z]) lv nq1
        have lv := lv.put (o := .lst [.str z]) nq1
        have B := B.same (same_upd (o := .lst [.str z]) nq1)
        have sc := sc.trans (sm_put (S := [d, c]) (o := .lst [.str z]) nq1)
        have fp4 := (sm_put (S := S) (o := .lst [.str z]) nq1) _ _ fp4
        have fL := (sm_put (S := S) (o := .lst [.str z]) nq1) _ _ fL
        have dp := dp_same ((sm_put (S := S) (o := .lst [.str z]) nq1)) dp
        have gg0 := gds_same ((sm_put (S := S) (o := .lst [.str z]) nq1)) gg0
        generalize upd T4 q1 (.lst [.str z]) = T5 at fq1 lv B sc fp4 fL dp gg0 ⊢
        refine ⟨_, rfl, (by show 1 ≤ sizeLine; decide), fun q2 nq2 => ?_⟩
        have fq2 := off_new (o := .tup [.str z]) lv nq2
        have lv := lv.put (o := .tup [.str z]) nq2
        have B := B.same (same_upd (o := .tup [.str z]) nq2)
        have sc := sc.trans (sm_put (S := [d, c]) (o := .tup [.str z]) nq2)
        have fp4 := (sm_put (S := S) (o := .tup [.str z]) nq2) _ _ fp4
        have fq1 := (sm_put (S := S) (o := .tup [.str z]) nq2) _ _ fq1
        have fL := (sm_put (S := S) (o := .tup [.str z]) nq2) _ _ fL
        have dp := dp_same ((sm_put (S := S) (o := .tup [.str z]) nq2)) dp
        have gg0 := gds_same ((sm_put (S := S) (o := .tup [.str z]) nq2)) gg0
        generalize upd T5 q2 (.tup [.str z]) = T6 at fq2 lv B sc fp4 fq1 fL dp gg0 ⊢
        refine ⟨(by show 6 ≤ sizeLine; decide), fun q3 nq3 => ?_⟩
        have fq3 := off_new (o := .lst [.str (z ++ Str.ofString "z"), .str (cutS z none (some (-1))), .str (Txt.upper z), .str (z ++ Str.ofString " "), .ref q1, .ref q2]) lv nq3
        have lv := lv.put (o := .lst [.str (z ++ Str.ofString "z"), .str (cutS z none (some (-1))), .str (Txt.upper z), .str (z ++ Str.ofString " "), .ref q1, .ref q2]) nq3
        have B := B.same (same_upd (o := .lst [.str (z ++ Str.ofString "z"), .str (cutS z none (some (-1))), .str (Txt.upper z), .str (z ++ Str.ofString " "), .ref q1, .ref q2]) nq3)
        have sc := sc.trans (sm_put (S := [d, c]) (o := .lst [.str (z ++ Str.ofString "z"), .str (cutS z none (some (-1))), .str (Txt.upper z), .str (z ++ Str.ofString " "), .ref q1, .ref q2]) nq3)
        have fp4 := (sm_put (S := S) (o := .lst [.str (z ++ Str.ofString "z"), .str (cutS z none (some (-1))), .str (Txt.upper z), .str (z ++ Str.ofString " "), .ref q1, .ref q2]) nq3) _ _ fp4
        have fq1 := (sm_put (S := S) (o := .lst [.str (z ++ Str.ofString "z"), .str (cutS z none (some (-1))), .str (Txt.upper z), .str (z ++ Str.ofString " "), .ref q1, .ref q2]) nq3) _ _ fq1
        have fq2 := (sm_put (S := S) (o := .lst [.str (z ++ Str.ofString "z"), .str (cutS z none (some (-1))), .str (Txt.upper z), .str (z ++ Str.ofString " "), .ref q1, .ref q2]) nq3) _ _ fq2
        have fL := (sm_put (S := S) (o := .lst [.str (z ++ Str.ofString "z"), .str (cutS z none (some (-1))), .str (Txt.upper z), .str (z ++ Str.ofString " "), .ref q1, .ref q2]) nq3) _ _ fL
        have dp := dp_same ((sm_put (S := S) (o := .lst [.str (z ++ Str.ofString "z"), .str (cutS z none (some (-1))), .str (Txt.upper z), .str (z ++ Str.ofString " "), .ref q1, .ref q2]) nq3)) dp
        have gg0 := gds_same ((sm_put (S := S) (o := .lst [.str (z ++ Str.ofString "z"), .str (cutS z none (some (-1))), .str (Txt.upper z), .str (z ++ Str.ofString " "), .ref q1, .ref q2]) nq3)) gg0
        generalize upd T6 q3 (.lst [.str (z ++ Str.ofString "z"), .str (cutS z none (some (-1))), .str (Txt.upper z), .str (z ++ Str.ofString " "), .ref q1, .ref q2]) = T7 at fq3 lv B sc fp4 fq1 fq2 fL dp gg0 ⊢
        have st : ∀ {zz : Str} {Hx : Hp}, zz.length ≤ n + 1 → (∀ x ∈ zz.cps.toList, x < 128) → Gd K Hx (n + 12) (m + 1000000) (10 * n + 3000) (.str zz) := fun h1 h2 =>
          ⟨_, .str _, up (n' := n + 1) (m' := 0) (bd_str h1 (by omega) h2) (by omega) (by omega) (by omega) (by decide) (by decide)⟩
        have gg1 : ∀ y ∈ [V.str (z ++ Str.ofString "z"), .str (cutS z none (some (-1))), .str (Txt.upper z), .str (z ++ Str.ofString " "), .ref q1, .ref q2], Gd K (off T7 S) (n + 12) (m + 1000000) (10 * n + 3000) y := by
          intro y hx
          simp only [List.mem_cons, List.not_mem_nil, or_false] at hx
          rcases hx with rfl | rfl | rfl | rfl | rfl | rfl
          · exact st (by rw [strLen_append, l1]; omega) (ascii_app cz (ascii_of (by decide +kernel)))
          · exact st (by omega) (ascii_cut cz _ _)
          · exact st (by omega) (upper_small cz)
          · exact st (by rw [strLen_append, l2]; omega) (ascii_app cz (ascii_of (by decide +kernel)))
          · exact ⟨_, .lst (SqL.of fq1) (.cons (.str _) .nil), up (n' := n) (m' := 0) (((Bds.one (bd_str hz (by omega) cz)).mono (Nat.le_refl _) (Nat.le_refl _) (Nat.le_refl _) (Nat.le_refl _) (Nat.zero_le 1)).list (by show 1 ≤ 1; decide)) (by omega) (by omega) (by omega) (by decide) (by decide)⟩
          · exact ⟨_, .tup (.inl (.inl fq2)) (.cons (.str _) .nil), up (n' := n) (m' := 0) (((Bds.one (bd_str hz (by omega) cz)).mono (Nat.le_refl _) (Nat.le_refl _) (Nat.le_refl _) (Nat.le_refl _) (Nat.zero_le 1)).tuple (by show 1 ≤ 1; decide)) (by omega) (by omega) (by omega) (by decide) (by decide)⟩
        have ggn : ∀ {Hx : Hp}, ∀ y ∈ ys.map V.str, Gd K Hx (n + 12) (m + 1000000) (10 * n + 3000) y := by
          intro Hx y hx
          obtain ⟨zz, hz, rfl⟩ := List.mem_map.mp hx
          exact st (Nat.le_trans (hy zz hz).1.1 (by omega)) (hy zz hz).ascii
        refine ⟨p4, q3, _, _, rfl, rfl, at_off fp4, at_off fq3, cat9 (by rw [l0]; show _ + _ ≤ _; simp only [List.length_cons, List.length_nil]; decide), fun q4 nq4 => ?_⟩
        have gg2 := gds_app gg0 gg1
        obtain ⟨xs1, ex1⟩ : ∃ xs1, xs1 = xs0 ++ [V.str (z ++ Str.ofString "z"), .str (cutS z none (some (-1))), .str (Txt.upper z), .str (z ++ Str.ofString " "), .ref q1, .ref q2] := ⟨_, rfl⟩
        have l5 : xs1.length = 21 := by rw [ex1, List.length_append, l0]; rfl
        rw [← ex1] at gg2 ⊢
        clear ex1 gg1 gg0
        have fq4 := off_new (o := .lst xs1) lv nq4
        have lv := lv.put (o := .lst xs1) nq4
        have B := B.same (same_upd (o := .lst xs1) nq4)
        have sc := sc.trans (sm_put (S := [d, c]) (o := .lst xs1) nq4)
        have fL := (sm_put (S := S) (o := .lst xs1) nq4) _ _ fL
        have dp := dp_same ((sm_put (S := S) (o := .lst xs1) nq4)) dp
        have gg2 := gds_same ((sm_put (S := S) (o := .lst xs1) nq4)) gg2
        generalize upd T7 q4 (.lst xs1) = T8 at fq4 lv B sc fL dp gg2 ⊢
        have ln : (ys.map V.str).length ≤ 30 := by rw [List.length_map]; exact ly
        refine ⟨_, rfl, q4, L, _, _, rfl, rfl, at_off fq4, at_off fL, cat9 (by omega), fun q5 nq5 => ?_⟩
        have gg3 := gds_app gg2 (ggn (Hx := off T8 S))
        have fq5 := off_new (o := .lst (xs1 ++ ys.map V.str)) lv nq5
        have lv := lv.put (o := .lst (xs1 ++ ys.map V.str)) nq5
        have B := B.same (same_upd (o := .lst (xs1 ++ ys.map V.str)) nq5)
        have sc := sc.trans (sm_put (S := [d, c]) (o := .lst (xs1 ++ ys.map V.str)) nq5)
        have fL := (sm_put (S := S) (o := .lst (xs1 ++ ys.map V.str)) nq5) _ _ fL
        have dp := dp_same ((sm_put (S := S) (o := .lst (xs1 ++ ys.map V.str)) nq5)) dp
        have gg3 := gds_same ((sm_put (S := S) (o := .lst (xs1 ++ ys.map V.str)) nq5)) gg3
        generalize upd T8 q5 (.lst (xs1 ++ ys.map V.str)) = T9 at fq5 lv B sc fL dp gg3 ⊢
        refine ⟨_, rfl, q5, L, _, _, rfl, rfl, at_off fq5, at_off fL, cat9 (by rw [List.length_append]; omega), fun q6 nq6 => ?_⟩
        have gg4 := gds_app gg3 (ggn (Hx := off T9 S))
        have fq6 := off_new (o := .lst (xs1 ++ ys.map V.str ++ ys.map V.str)) lv nq6
        have lv := lv.put (o := .lst (xs1 ++ ys.map V.str ++ ys.map V.str)) nq6
        have B := B.same (same_upd (o := .lst (xs1 ++ ys.map V.str ++ ys.map V.str)) nq6)
        have sc := sc.trans (sm_put (S := [d, c]) (o := .lst (xs1 ++ ys.map V.str ++ ys.map V.str)) nq6)
        have fL := (sm_put (S := S) (o := .lst (xs1 ++ ys.map V.str ++ ys.map V.str)) nq6) _ _ fL
        have dp := dp_same ((sm_put (S := S) (o := .lst (xs1 ++ ys.map V.str ++ ys.map V.str)) nq6)) dp
        have gg4 := gds_same ((sm_put (S := S) (o := .lst (xs1 ++ ys.map V.str ++ ys.map V.str)) nq6)) gg4
        generalize upd T9 q6 (.lst (xs1 ++ ys.map V.str ++ ys.map V.str)) = T10 at fq6 lv B sc fL dp gg4 ⊢
        exact ⟨_, rfl, _, rfl, fin _ q6 _ B sc fq6 gg4 (by rw [List.length_append, List.length_append]; omega) (by rw [List.length_append, List.length_append]; omega)⟩
      | false =>
        exact iteF ⟨_, rfl, _, rfl, fin _ p4 xs0 B sc fp4 gg0 (by omega) (by omega)⟩

end
end Pot

namespace Pot
open PySem PySem.Spec PyProof.Rows L2
section
variable {P : Program} {w : World} {K : PySem.W.Frag} {mg : Str → Option Value} {base : Heap}
/-! ### _law_bent -/
def capK : Nat → Nat → Nat → Nat
  | 0, _, _ => 0
  | k + 1, n, C => 3 * C + 10 * n + 8000 + capK k n C
theorem capK_up {a b : Nat} (n C : Nat) (h : a ≤ b) : capK a n C ≤ capK b n C := by
  induction b with
  | zero => rw [Nat.le_zero.mp h]; exact Nat.le_refl _
  | succ b ih =>
    rcases Nat.lt_or_ge a (b + 1) with z | z
    · have := ih (by omega)
      show _ ≤ 3 * C + 10 * n + 8000 + capK b n C
      omega
    · rw [show a = b + 1 by omega]; exact Nat.le_refl _
theorem seq_of {H : Hp} {x : V} {e : PyData} {ds : List PyData} (h : Dp K H x e) (he : e = .list ds ∨ e = .tuple ds) : ∃ a xs, x = .ref a ∧ SqA K H a xs ∧ DpAll K H xs ds := by
  rcases he with rfl | rfl
  · cases h with
    | lst hl ha => exact ⟨_, _, rfl, .inl hl, ha⟩
  · cases h with
    | tup hl ha => exact ⟨_, _, rfl, .inr hl, ha⟩
theorem cut_two (xs : List V) (a : Nat) : (cutV xs (some (a : Int)) (some ((a : Int) + 2))).length ≤ 2 := by
  unfold cutV
  rw [List.length_take, List.length_drop]
  rw [show ((a : Int) + 2) = ((a + 2 : Nat) : Int) by omega, HT.sIx_nat, HT.sIx_nat]
  omega
theorem cut_rest (xs : List V) (a b : Nat) (h : a ≤ xs.length) : (cutV xs (some (a : Int)) (some (b : Int))).length ≤ xs.length - a := by
  unfold cutV
  rw [List.length_take, List.length_drop, HT.sIx_nat, HT.sIx_nat]
  omega
def spBent (K : PySem.W.Frag) (k : Nat) : Sp := fun vs H Q _ => ∃ (d c L : Addr) (S : List Addr) (cnt : Nat) (x : V) (e : PyData) (n m C D W : Nat) (ys : List Str), vs = [.ref d, x, .ref L] ∧ StAt H d c cnt ∧ cnt + 4 * k < 2 ^ 38 ∧ d ∈ S ∧ c ∈ S ∧ Live S H ∧ Dp K (off H S) x e ∧ off H S L = some (.lst (ys.map V.str)) ∧ (∀ y ∈ ys, Nm y) ∧ ys.length ≤ 30 ∧ D < k ∧ Bd n m C D W e ∧ 9 ≤ n ∧ n ≤ 500 ∧ m ≤ 10 ^ 10 ∧ 1 ≤ W ∧ W ≤ 1000 ∧
  ∀ (H' : Hp) (y : V) (e' : PyData), StAt H' d c (cnt + 4 * k) → Sm [d, c] H H' → Dp K (off H' S) y e' → Bd (n + 12) (m + 1000000) (capK (D + 1) n C) (D + 1) (W + 1) e' → Q y H'
theorem kit_tl {H : Hp} {x : V} {d : PyData} (h : Dp K H x d) : PySem.W.kitAny K (.type (tyD d)) [.type "tuple", .type "list"] = some (isListD d || isTupD d) := by
  cases h <;> rfl
abbrev s__law_bent : Stmt := topS 15
def n__law_bent : List Str := ["_law_state", "_law_thing", "_law_names_here", "_law_way", "_law_parts", "_law_at", "_law_ahead", "_law_behind"]
theorem sc__law_bent : FnScope n__law_bent ["_law_state", "_law_thing", "_law_names_here"] (defScope s__law_bent) := ⟨rfl, rfl, rfl, by decide +kernel, rfl, by decide +kernel, by decide +kernel⟩
set_option maxHeartbeats 4000000 in
theorem ok_bent {f : Addr} {fd : FuncData} {k0 : Nat} (F : Fun K "_law_bent" "_law_bent" s__law_bent f fd) (T : Txt mg) (bF : Binds K fd ["_law_state", "_law_thing", "_law_names_here"] []) (gF : mg "_law_bent" = some (.ref f)) (c__law_take : Cl P w K mg base (k0 + 1) "_law_take" spTake) (c__law_other : Cl P w K mg base (k0 + 3) "_law_other" (spOther K)) :
    ∀ k : Nat, FnOk P w K mg base CX0 (k0 + k + 4) f fd ["_law_state", "_law_thing", "_law_names_here"] (spBent K k) := by
  intro k
  induction k with
  | zero =>
    refine F.ok sc__law_bent (fun vs H Q E h => ?_) (fun cdv A outer s H vs Q E hr h => ?_)
    · obtain ⟨d, c, L, S, cnt, x, e, n, m, C, D, W, ys, rfl, _⟩ := h
      rfl
    · obtain ⟨d, c, L, S, cnt, x, e, n, m, C, D, W, ys, rfl, _, _, _, _, _, _, _, _, _, hk, _⟩ := h
      exact absurd hk (Nat.not_lt_zero _)
  | succ k G =>
    refine F.ok sc__law_bent (fun vs H Q E h => ?_) (fun cdv A outer s H vs Q E hr h => ?_)
    · obtain ⟨d, c, L, S, cnt, x, e, n, m, C, D, W, ys, rfl, _⟩ := h
      rfl
    · obtain ⟨d, c, L, S, cnt, x, e, n, m, C, D, W, ys, rfl, B, hn, hd, hc, lv, dp, fL, hy, ly, hk, bd, n9, n5, m9, W1, W9, q⟩ := h
      have nd := sc__law_bent.nd
      have hr2 : Room (k0 + k + 4) (A.deeper (envOfC (Str.ofString "_law_bent") (defScope s__law_bent) s.heap.objs.size f cdv)) := hr
      /- 0 _law_state, 1 _law_thing, 2 _law_names_here, 3 _law_way, 4 _law_parts, 5 _law_at, 6 _law_ahead, 7 _law_behind -/
      refine ⟨_, (pss_cons (ps_set (i := 3) nd rfl (.inl rfl) (pe_cl c__law_take hr (by omega) (by rfl) (pa_cons (pv 0) (pa_cons pe_int pa_nil))))
      (pss_cons (ps_if ((pw_or (pt_not (pt_val (pe_callB (kc_isiT (K := K)) (by rfl) T.isinstance (by decide +kernel) (pa_cons (pv 1) (pa_cons (pe_tup (pa_cons (pe_bltn (v := .ty "tuple") (by rfl) T.tuple (by decide +kernel) rfl) (pa_cons (pe_bltn (v := .ty "list") (by rfl) T.list (by decide +kernel) rfl) pa_nil))) pa_nil))))) (pw_or (pt_cmpR op_eq (pe_callB (kc_len (K := K)) (by rfl) T.len PySem.boot_len (pa_cons (pv 1) pa_nil)) pe_int (nomark _)) (pw_or1 (pt_cmpR op_eq (pv 3) pe_int (nomark _)))))).pt
          (pss_one (ps_ret (pe_cl c__law_other hr (by omega) (by rfl) (pa_cons (pv 0) (pa_cons (pv 1) (pa_cons (pv 2) pa_nil))))))
          pss_nil)
      (pss_cons (ps_par (i := 4) (j := 5) rfl nd rfl rfl (by decide) rfl rfl (pa_cons (pe_callTy (kc_list (K := K)) (by rfl) T.list (by decide +kernel) (pa_cons (pv 1) pa_nil)) (pa_cons (pe_ix (kx_list (K := K)) (pe_lst (pa_cons (pe_op op_sub (pe_callB (kc_len (K := K)) (by rfl) T.len PySem.boot_len (pa_cons (pv 1) pa_nil)) pe_int) (pa_cons (pe_cl c__law_take hr (by omega) (by rfl) (pa_cons (pv 0) (pa_cons (pe_callB (kc_len (K := K)) (by rfl) T.len PySem.boot_len (pa_cons (pv 1) pa_nil)) pa_nil))) pa_nil))) (pe_cl c__law_take hr (by omega) (by rfl) (pa_cons (pv 0) (pa_cons pe_int pa_nil))) (fun _ _ => rfl)) pa_nil)) rfl)
      (pss_cons (ps_if (pt_cmpR op_eq (pv 3) pe_int (nomark _))
          (pss_one (ps_ret (pe_ifExp (pt_val (pe_callB (kc_isi (K := K)) (by rfl) T.isinstance (by decide +kernel) (pa_cons (pv 1) (pa_cons (pe_bltn (v := .ty "list") (by rfl) T.list (by decide +kernel) rfl) pa_nil)))) (pe_callTy (kc_tuple (K := K)) (by rfl) T.tuple (by decide +kernel) (pa_cons (pv 4) pa_nil)) (pv 4))))
          pss_nil)
      (pss_cons (ps_par (i := 6) (j := 7) rfl nd rfl rfl (by decide) rfl rfl (pa_cons (pe_slice (kl_list (K := K)) (pv 4) po_none (po_some (pv 5))) (pa_cons (pe_slice (kl_list (K := K)) (pv 4) (po_some (pe_op op_add (pv 5) pe_int)) po_none) pa_nil)) rfl)
      (pss_cons (ps_if (pt_cmpR op_eq (pv 3) pe_int (nomark _))
          (pss_one (ps_set (i := 4) nd rfl (.inl rfl) (pe_op op_cat (pv 6) (pv 7))))
          (pss_one (ps_if (pt_cmpR op_eq (pv 3) pe_int (nomark _))
              (pss_one (ps_set (i := 4) nd rfl (.inl rfl) (pe_op op_cat (pe_op op_cat (pv 6) (pe_lst (pa_cons (pe_ix (kx_list (K := K)) (pv 4) (pv 5) (fun _ _ => rfl)) pa_nil))) (pe_slice (kl_list (K := K)) (pv 4) (po_some (pv 5)) po_none))))
              (pss_one (ps_if (pt_cmpR op_eq (pv 3) pe_int (nomark _))
                  (pss_one (ps_set (i := 4) nd rfl (.inl rfl) (pe_op op_cat (pe_op op_cat (pv 6) (pe_revL (pe_slice (kl_list (K := K)) (pv 4) (po_some (pv 5)) (po_some (pe_op op_add (pv 5) pe_int))))) (pe_slice (kl_list (K := K)) (pv 4) (po_some (pe_op op_add (pv 5) pe_int)) po_none))))
                  (pss_one (ps_if (pt_cmpR op_eq (pv 3) pe_int (nomark _))
                      (pss_one (ps_set (i := 4) nd rfl (.inl rfl) (pe_revL (pv 4))))
                      (pss_one (ps_if (pt_cmpR op_eq (pv 3) pe_int (nomark _))
                          (pss_one (ps_set (i := 4) nd rfl (.inl rfl) (pe_op op_cat (pe_op op_cat (pv 6) (pe_lst (pa_cons (pe_cl c__law_other hr (by omega) (by rfl) (pa_cons (pv 0) (pa_cons pe_non (pa_cons (pv 2) pa_nil)))) pa_nil))) (pe_slice (kl_list (K := K)) (pv 4) (po_some (pv 5)) po_none))))
                          (pss_one (ps_asg (pe_call G hr2 (by rfl) gF F.kp bF .nil pass0 (pa_cons (pv 0) (pa_cons (pe_ix (kx_list (K := K)) (pv 4) (pv 5) (fun _ _ => rfl)) (pa_cons (pv 2) pa_nil)))) (pg_sub (pv 4) (pv 5) set_list))))))))))))
      (pss_one (ps_ret (pe_ifExp (pt_val (pe_callB (kc_isi (K := K)) (by rfl) T.isinstance (by decide +kernel) (pa_cons (pv 1) (pa_cons (pe_bltn (v := .ty "list") (by rfl) T.list (by decide +kernel) rfl) pa_nil)))) (pv 4) (pe_callTy (kc_tuple (K := K)) (by rfl) T.tuple (by decide +kernel) (pa_cons (pv 4) pa_nil))))))))))), ?_⟩
      have sc : Sm [d, c] H H := Same.refl _
      have lv0 := lv
      refine ⟨_, rfl, d, c, 14, _, rfl, (by decide), (by decide), B, by omega, fun H1 way w0 w1 B1 s1 => ?_⟩
      have lv := lv.st B1 s1
      have sc := sc.trans s1
      have B := B1
      have fL := (sm_two hd hc s1) _ _ fL
      have dp := dp_same ((sm_two hd hc s1)) dp
      refine ⟨_, rfl, (by show 2 ≤ sizeLine; decide), fun p0 np0 => ?_⟩
      have fp0 := off_new (o := .tup [.ty "tuple", .ty "list"]) lv np0
      have lv := lv.put (o := .tup [.ty "tuple", .ty "list"]) np0
      have B := B.same (same_upd (o := .tup [.ty "tuple", .ty "list"]) np0)
      have sc := sc.trans (sm_put (S := [d, c]) (o := .tup [.ty "tuple", .ty "list"]) np0)
      have fL := (sm_put (S := S) (o := .tup [.ty "tuple", .ty "list"]) np0) _ _ fL
      have dp := dp_same ((sm_put (S := S) (o := .tup [.ty "tuple", .ty "list"]) np0)) dp
      generalize upd H1 p0 (.tup [.ty "tuple", .ty "list"]) = H0 at fp0 lv B sc fL dp ⊢
      have dH := dp_off dp
      refine ⟨_, p0, _, _, _, _, rfl, at_off fp0, .cons (.ty _) (.cons (.ty _) .nil), tyx_dp dH, kit_tl dH, _, rfl, ?_⟩
      cases hs : (isListD e || isTupD e) with
      | false =>
        refine iteT ?_
        refine ⟨_, rfl, _, rfl, _, rfl, d, c, L, S, _, x, e, n, m, C, D, W, ys, rfl, B, (by omega), hd, hc, lv, dp, fL, hy, ly, bd, n9, n5, m9, fun H2 y e' B2 s2 dy by_ => ?_⟩
        exact q _ _ _ (B2.mono (by omega)) (sc.trans s2) dy (by_.mono (Nat.le_refl _) (Nat.le_refl _) (by show _ ≤ 3 * C + 10 * n + 8000 + capK D n C; omega) (by omega) (by omega))
      | true =>
        refine iteF ?_
        obtain ⟨ds, he⟩ : ∃ ds, e = .list ds ∨ e = .tuple ds := by
          cases e with
          | list ds => exact ⟨ds, .inl rfl⟩
          | tuple ds => exact ⟨ds, .inr rfl⟩
          | _ => cases hs
        obtain ⟨ax, xs, rfl, sqq, dax⟩ := seq_of dp he
        obtain ⟨bds0, lW, hC3, hD1⟩ := bd.parts he
        have lx := dpAll_len dax
        refine ⟨_, rfl, _, _, rfl, sqa_len (sqa_off sqq), rfl, _, rfl, ite2 (fun h0 => ?_) (fun h0 => ?_)⟩
        · refine iteT ?_
          obtain ⟨x, ex⟩ : ∃ x, x = V.ref ax := ⟨_, rfl⟩
          rw [← ex] at dp ⊢
          refine ⟨_, rfl, _, rfl, _, rfl, d, c, L, S, _, x, e, n, m, C, D, W, ys, rfl, B, (by omega), hd, hc, lv, dp, fL, hy, ly, bd, n9, n5, m9, fun H2 y e' B2 s2 dy by_ => ?_⟩
          exact q _ _ _ (B2.mono (by omega)) (sc.trans s2) dy (by_.mono (Nat.le_refl _) (Nat.le_refl _) (by show _ ≤ 3 * C + 10 * n + 8000 + capK D n C; omega) (by omega) (by omega))
        have l1 : 0 < ds.length := by
          rcases Nat.eq_zero_or_pos ds.length with z | z
          · exact absurd (by rw [lx, z]; rfl) h0
          · exact z
        refine ⟨_, rfl, rfl, _, rfl, ite2 (fun h6 => ?_) (fun h6 => ?_)⟩
        · skip
          obtain ⟨x, ex⟩ : ∃ x, x = V.ref ax := ⟨_, rfl⟩
          rw [← ex] at dp ⊢
          refine ⟨_, rfl, _, rfl, _, rfl, d, c, L, S, _, x, e, n, m, C, D, W, ys, rfl, B, (by omega), hd, hc, lv, dp, fL, hy, ly, bd, n9, n5, m9, fun H2 y e' B2 s2 dy by_ => ?_⟩
          exact q _ _ _ (B2.mono (by omega)) (sc.trans s2) dy (by_.mono (Nat.le_refl _) (Nat.le_refl _) (by show _ ≤ 3 * C + 10 * n + 8000 + capK D n C; omega) (by omega) (by omega))
        have lx2 : xs.length = ds.length := lx
        have q0 := q
        refine ⟨_, rfl, ax, xs, rfl, sqa_off sqq, fun I nI => ?_⟩
        have IS := lv.out nI
        have nI0 := st_free sc B nI
        have lvS := lv0
        obtain ⟨S0, eS0⟩ : ∃ S0, S0 = S := ⟨_, rfl⟩
        rw [← eS0] at q0 hd hc IS lvS
        have eoff : ∀ o, off (upd H0 I o) (I :: S0) = off H0 S := fun o => by rw [eS0]; exact off_fresh nI
        have lv2 : Live (I :: S0) (upd H0 I (.lst xs)) := by rw [eS0]; exact (lv.put nI).cons upd_same
        have B2 := B.same (same_upd (o := .lst xs) nI)
        have sc2 := sc.trans (sm_put (S := [d, c]) (o := .lst xs) nI)
        have dax2 : DpAll K (off (upd H0 I (.lst xs)) (I :: S0)) xs ds := by rw [eoff]; exact dax
        have sqq2 : SqA K (off (upd H0 I (.lst xs)) (I :: S0)) ax xs := by rw [eoff]; exact sqq
        have fL2 : off (upd H0 I (.lst xs)) (I :: S0) L = some (.lst (ys.map V.str)) := by rw [eoff]; exact fL
        have dp2 : Dp K (off (upd H0 I (.lst xs)) (I :: S0)) (.ref ax) e := by rw [eoff]; exact dp
        have hI2 : upd H0 I (.lst xs) I = some (.lst xs) := upd_same
        have Id : I ≠ d := fun z => IS (by rw [z]; exact hd)
        have Ic : I ≠ c := fun z => IS (by rw [z]; exact hc)
        generalize upd H0 I (.lst xs) = H2 at lv2 B2 sc2 dax2 sqq2 fL2 dp2 hI2 ⊢
        clear eoff q lv B sc dax sqq fL dp
        have hd2 : d ∈ I :: S0 := List.mem_cons_of_mem _ hd
        have hc2 : c ∈ I :: S0 := List.mem_cons_of_mem _ hc
        obtain ⟨S, eS⟩ : ∃ S, S = I :: S0 := ⟨_, rfl⟩
        rw [← eS] at lv2 dax2 sqq2 fL2 dp2 hd2 hc2
        clear hd hc
        have hd := hd2
        have hc := hc2
        have lv := lv2
        have B := B2
        have sc := sc2
        have dax := dax2
        have sqq := sqq2
        have fL := fL2
        have dp := dp2
        have om : ∀ {Hx : Hp}, Same (off Hx S) (off Hx S0) := off_mono (by rw [eS]; exact fun z hz => List.mem_cons_of_mem _ hz)
        refine ⟨_, rfl, _, _, rfl, sqa_len (sqa_off sqq), _, _, rfl, rfl, ?_⟩
        refine ⟨_, rfl, _, rfl, _, _, rfl, sqa_len (sqa_off sqq), d, c, _, _, rfl, (by omega), (by omega), B, by omega, fun H3 r r0 r1 B3 s3 => ?_⟩
        have hI3 := sm2_at s3 Id Ic hI2
        have lv := lv.st B3 s3
        have sc := sc.trans s3
        have B := B3
        have fL := (sm_two hd hc s3) _ _ fL
        have dp := dp_same ((sm_two hd hc s3)) dp
        have dax := dpAll_same ((sm_two hd hc s3)) dax
        have sqq := sq_same ((sm_two hd hc s3)) sqq
        refine ⟨(by show 2 ≤ sizeLine; decide), fun p1 np1 => ?_⟩
        have hI4 := same_upd (o := .lst [.int (((xs.length : Nat) : Int) - 1), .int r]) np1 _ _ hI3
        have fp1 := off_new (o := .lst [.int (((xs.length : Nat) : Int) - 1), .int r]) lv np1
        have lv := lv.put (o := .lst [.int (((xs.length : Nat) : Int) - 1), .int r]) np1
        have B := B.same (same_upd (o := .lst [.int (((xs.length : Nat) : Int) - 1), .int r]) np1)
        have sc := sc.trans (sm_put (S := [d, c]) (o := .lst [.int (((xs.length : Nat) : Int) - 1), .int r]) np1)
        have fL := (sm_put (S := S) (o := .lst [.int (((xs.length : Nat) : Int) - 1), .int r]) np1) _ _ fL
        have dp := dp_same ((sm_put (S := S) (o := .lst [.int (((xs.length : Nat) : Int) - 1), .int r]) np1)) dp
        have dax := dpAll_same ((sm_put (S := S) (o := .lst [.int (((xs.length : Nat) : Int) - 1), .int r]) np1)) dax
        have sqq := sq_same ((sm_put (S := S) (o := .lst [.int (((xs.length : Nat) : Int) - 1), .int r]) np1)) sqq
        generalize upd H3 p1 (.lst [.int (((xs.length : Nat) : Int) - 1), .int r]) = H4 at fp1 lv B sc fL hI4 dp dax sqq ⊢
        refine ⟨_, rfl, d, c, 2, _, rfl, (by decide), (by decide), B, by omega, fun H5 r2 r20 r21 B5 s5 => ?_⟩
        have hI5 := sm2_at s5 Id Ic hI4
        have lv := lv.st B5 s5
        have sc := sc.trans s5
        have B := B5
        have fL := (sm_two hd hc s5) _ _ fL
        have fp1 := (sm_two hd hc s5) _ _ fp1
        have dp := dp_same ((sm_two hd hc s5)) dp
        have dax := dpAll_same ((sm_two hd hc s5)) dax
        have sqq := sq_same ((sm_two hd hc s5)) sqq
        obtain ⟨at_, eat, lat⟩ : ∃ at_ : Nat, atI [V.int (((xs.length : Nat) : Int) - 1), .int r] r2 = some (.int (at_ : Int)) ∧ at_ < ds.length := by
          have h : r2 = 0 ∨ r2 = 1 := by omega
          rcases h with rfl | rfl
          · exact ⟨xs.length - 1, by show some (V.int _) = _; congr 2; omega, by omega⟩
          · exact ⟨r.toNat, by show some (V.int _) = _; congr 2; omega, by omega⟩
        refine ⟨p1, _, r2, _, rfl, rfl, SqL.of (at_off fp1), eat, _, _, rfl, ?_⟩
        obtain ⟨D, rfl⟩ : ∃ D', D = D' + 1 := ⟨D - 1, by omega⟩
        have hcap : capK (D + 1 + 1) n C = 3 * C + 10 * n + 8000 + capK (D + 1) n C := rfl
        have bds : Bds n m C D W ds := bds0.mono (Nat.le_refl _) (Nat.le_refl _) (by omega) (Nat.le_refl _) (Nat.le_refl _)
        generalize hX : capK (D + 1) n C = X at hcap
        rw [hcap] at q0
        have dH5 := dp_off dp
        have big : ∀ {z : Nat}, z ≤ 3010 → z ≤ sizeLine := fun h => by rw [sizeLine_eq]; omega
        have fin : ∀ (HF : Hp) (P : Addr) (zs : List V) (es : List PyData), StAt HF d c (cnt + 4 * (k + 1)) → Sm [d, c] H HF → off HF S0 P = some (.lst zs) → DpAll K (off HF S0) zs es → Bds (n + 12) (m + 1000000) (3 * C + 10 * n + 7990 + X) (D + 1) (W + 1) es → es.length ≤ W + 1 →
            Q (.ref P) HF ∧ (∀ u, HF u = none → Q (.ref u) (upd HF u (.tup zs))) := by
          intro HF P zs es Bf sf fP daz bz lz
          refine ⟨q0 _ _ _ Bf sf (.lst (SqL.of fP) daz) ((bz.list lz).mono (Nat.le_refl _) (Nat.le_refl _) (by omega) (Nat.le_refl _) (Nat.le_refl _)), fun u nu => ?_⟩
          have su := same_upd (o := .tup zs) nu
          have uS : u ∉ S0 := fun z => by
            rcases Decidable.em (u = d) with h | h
            · exact (Bf.nd nu) h
            rcases Decidable.em (u = c) with h2 | h2
            · exact (Bf.nc nu) h2
            have := lvS u z
            cases hH : H u with
            | none => exact this hH
            | some o => rw [sm2_at sf h h2 hH] at nu; cases nu
          exact q0 _ _ _ (Bf.same su) (sf.trans (sm_of su)) (.tup (.inl (.inl (by rw [off_out uS]; exact upd_same))) (dpAll_same (sm_of su) daz)) ((bz.tuple lz).mono (Nat.le_refl _) (Nat.le_refl _) (by omega) (Nat.le_refl _) (Nat.le_refl _))
        refine ⟨_, rfl, rfl, _, rfl, ite2 (fun h => ?_) (fun h => ?_)⟩
        · refine ⟨_, rfl, _, .ty _, _, _, isListD _, rfl, .ty _, tyx_dp dH5, kit_list dH5, _, rfl, ?_⟩
          obtain ⟨r1, r2⟩ := fin _ I xs ds (B.mono (by omega)) sc (by rw [off_out IS]; exact hI5) (dpAll_same om dax) (bds.mono (by omega) (by omega) (by omega) (by omega) (by omega)) (by omega)
          cases hL : isListD e with
          | true => exact iteT ⟨_, rfl, I, _, rfl, .inl ⟨SqL.of hI5, fun u nu => r2 u nu⟩⟩
          | false => exact iteF ⟨_, rfl, r1⟩
        clear h
        refine ⟨_, rfl, _, rfl, _, rfl, I, _, rfl, SqL.of hI5, fun e1 ne1 => ?_⟩
        rw [cut_head]
        have hI6 := same_upd (o := .lst (xs.take at_)) ne1 _ _ hI5
        have fe1 := off_new (o := .lst (xs.take at_)) lv ne1
        have lv := lv.put (o := .lst (xs.take at_)) ne1
        have B := B.same (same_upd (o := .lst (xs.take at_)) ne1)
        have sc := sc.trans (sm_put (S := [d, c]) (o := .lst (xs.take at_)) ne1)
        have fL := (sm_put (S := S) (o := .lst (xs.take at_)) ne1) _ _ fL
        have dp := dp_same ((sm_put (S := S) (o := .lst (xs.take at_)) ne1)) dp
        have dax := dpAll_same ((sm_put (S := S) (o := .lst (xs.take at_)) ne1)) dax
        generalize upd H5 e1 (.lst (xs.take at_)) = H6 at fe1 lv B sc fL hI6 dp dax ⊢
        refine ⟨_, rfl, _, rfl, _, _, rfl, rfl, _, rfl, I, _, rfl, SqL.of hI6, fun e2 ne2 => ?_⟩
        rw [show ((at_ : Nat) : Int) + 1 = ((at_ + 1 : Nat) : Int) by omega, cut_tail]
        have hI7 := same_upd (o := .lst (xs.drop (at_ + 1))) ne2 _ _ hI6
        have fe2 := off_new (o := .lst (xs.drop (at_ + 1))) lv ne2
        have lv := lv.put (o := .lst (xs.drop (at_ + 1))) ne2
        have B := B.same (same_upd (o := .lst (xs.drop (at_ + 1))) ne2)
        have sc := sc.trans (sm_put (S := [d, c]) (o := .lst (xs.drop (at_ + 1))) ne2)
        have fL := (sm_put (S := S) (o := .lst (xs.drop (at_ + 1))) ne2) _ _ fL
        have fe1 := (sm_put (S := S) (o := .lst (xs.drop (at_ + 1))) ne2) _ _ fe1
        have dp := dp_same ((sm_put (S := S) (o := .lst (xs.drop (at_ + 1))) ne2)) dp
        have dax := dpAll_same ((sm_put (S := S) (o := .lst (xs.drop (at_ + 1))) ne2)) dax
        generalize upd H6 e2 (.lst (xs.drop (at_ + 1))) = H7 at fe2 lv B sc fL fe1 hI7 dp dax ⊢
        refine ⟨_, _, rfl, ?_⟩
        have lt1 : (xs.take at_).length = at_ := by rw [List.length_take]; omega
        have lt2 : (xs.drop (at_ + 1)).length = ds.length - (at_ + 1) := by rw [List.length_drop]; omega
        have lt3 : (ds.take at_).length = at_ := by rw [List.length_take]; omega
        have lt4 : (ds.drop (at_ + 1)).length = ds.length - (at_ + 1) := by rw [List.length_drop]
        have bt : ∀ j, Bds n m C D W (ds.take j) := fun j => bds.take j
        have bd2 : ∀ j, Bds n m C D W (ds.drop j) := fun j => bds.drop j
        have bup : ∀ {C' : Nat} {l : List PyData}, Bds n m C' D W l → C' ≤ 3 * C + 10 * n + 7990 + X → Bds (n + 12) (m + 1000000) (3 * C + 10 * n + 7990 + X) (D + 1) (W + 1) l := fun h a => h.mono (by omega) (by omega) a (by omega) (by omega)
        refine ⟨_, rfl, rfl, _, rfl, ite2 (fun h1 => ?_) (fun h1 => ?_)⟩
        · refine ⟨_, rfl, _, rfl, e1, e2, _, _, rfl, rfl, at_off fe1, at_off fe2, big (by omega), fun P nP => ?_⟩
          have fP := off_new (o := .lst (xs.take at_ ++ xs.drop (at_ + 1))) lv nP
          have lv := lv.put (o := .lst (xs.take at_ ++ xs.drop (at_ + 1))) nP
          have B := B.same (same_upd (o := .lst (xs.take at_ ++ xs.drop (at_ + 1))) nP)
          have sc := sc.trans (sm_put (S := [d, c]) (o := .lst (xs.take at_ ++ xs.drop (at_ + 1))) nP)
          have dp := dp_same ((sm_put (S := S) (o := .lst (xs.take at_ ++ xs.drop (at_ + 1))) nP)) dp
          have dax := dpAll_same ((sm_put (S := S) (o := .lst (xs.take at_ ++ xs.drop (at_ + 1))) nP)) dax
          generalize upd H7 P (.lst (xs.take at_ ++ xs.drop (at_ + 1))) = HF at fP lv B sc dp dax ⊢
          have daz := dpAll_app' (dpAll_take at_ dax) (dpAll_drop (at_ + 1) dax)
          have bz := bup ((bt at_).app (bd2 (at_ + 1))) (by omega)
          have lz : (ds.take at_ ++ ds.drop (at_ + 1)).length ≤ W + 1 := by rw [List.length_append]; omega
          obtain ⟨r1, r2⟩ := fin _ P _ _ (B.mono (by omega)) sc (om _ _ fP) (dpAll_same om daz) bz lz
          have dHF := dp_off dp
          refine ⟨_, rfl, _, .ty _, _, _, isListD _, rfl, .ty _, tyx_dp dHF, kit_list dHF, _, rfl, ?_⟩
          cases hL : isListD e with
          | true => exact iteT ⟨_, rfl, r1⟩
          | false => exact iteF ⟨_, rfl, P, _, rfl, .inl ⟨SqL.of (at_off fP), fun u nu => r2 u nu⟩⟩
        refine ⟨_, rfl, rfl, _, rfl, ite2 (fun h2 => ?_) (fun h2 => ?_)⟩
        · obtain ⟨x1, g1, dpv⟩ := dpAll_at dax (List.getElem?_eq_getElem (show at_ < xs.length by omega))
          have bx1 := bds.mem (List.mem_of_getElem? g1)
          refine ⟨_, rfl, _, rfl, _, rfl, I, _, _, _, rfl, rfl, SqL.of hI7, atI_nat (List.getElem?_eq_getElem (show at_ < xs.length by omega)), ?_⟩
          generalize xs[at_]'(show at_ < xs.length by omega) = xv at dpv ⊢
          refine ⟨(by show 1 ≤ sizeLine; decide), fun e3 ne3 => ?_⟩
          have hI8 := same_upd (o := .lst [xv]) ne3 _ _ hI7
          have fe3 := off_new (o := .lst [xv]) lv ne3
          have lv := lv.put (o := .lst [xv]) ne3
          have B := B.same (same_upd (o := .lst [xv]) ne3)
          have sc := sc.trans (sm_put (S := [d, c]) (o := .lst [xv]) ne3)
          have fe1 := (sm_put (S := S) (o := .lst [xv]) ne3) _ _ fe1
          have dp := dp_same ((sm_put (S := S) (o := .lst [xv]) ne3)) dp
          have dax := dpAll_same ((sm_put (S := S) (o := .lst [xv]) ne3)) dax
          have dpv := dp_same ((sm_put (S := S) (o := .lst [xv]) ne3)) dpv
          generalize upd H7 e3 (.lst [xv]) = H8 at fe3 lv B sc fe1 hI8 dp dax dpv ⊢
          refine ⟨e1, e3, _, _, rfl, rfl, at_off fe1, at_off fe3, big (by show _ + 1 ≤ _; omega), fun e4 ne4 => ?_⟩
          have hI9 := same_upd (o := .lst (xs.take at_ ++ [xv])) ne4 _ _ hI8
          have fe4 := off_new (o := .lst (xs.take at_ ++ [xv])) lv ne4
          have lv := lv.put (o := .lst (xs.take at_ ++ [xv])) ne4
          have B := B.same (same_upd (o := .lst (xs.take at_ ++ [xv])) ne4)
          have sc := sc.trans (sm_put (S := [d, c]) (o := .lst (xs.take at_ ++ [xv])) ne4)
          have dp := dp_same ((sm_put (S := S) (o := .lst (xs.take at_ ++ [xv])) ne4)) dp
          have dax := dpAll_same ((sm_put (S := S) (o := .lst (xs.take at_ ++ [xv])) ne4)) dax
          have dpv := dp_same ((sm_put (S := S) (o := .lst (xs.take at_ ++ [xv])) ne4)) dpv
          generalize upd H8 e4 (.lst (xs.take at_ ++ [xv])) = H9 at fe4 lv B sc hI9 dp dax dpv ⊢
          refine ⟨_, rfl, _, rfl, _, rfl, I, _, rfl, SqL.of hI9, fun e5 ne5 => ?_⟩
          rw [cut_tail]
          have fe5 := off_new (o := .lst (xs.drop at_)) lv ne5
          have lv := lv.put (o := .lst (xs.drop at_)) ne5
          have B := B.same (same_upd (o := .lst (xs.drop at_)) ne5)
          have sc := sc.trans (sm_put (S := [d, c]) (o := .lst (xs.drop at_)) ne5)
          have fe4 := (sm_put (S := S) (o := .lst (xs.drop at_)) ne5) _ _ fe4
          have dp := dp_same ((sm_put (S := S) (o := .lst (xs.drop at_)) ne5)) dp
          have dax := dpAll_same ((sm_put (S := S) (o := .lst (xs.drop at_)) ne5)) dax
          have dpv := dp_same ((sm_put (S := S) (o := .lst (xs.drop at_)) ne5)) dpv
          generalize upd H9 e5 (.lst (xs.drop at_)) = H10 at fe5 lv B sc fe4 dp dax dpv ⊢
          refine ⟨e4, e5, _, _, rfl, rfl, at_off fe4, at_off fe5, big (by rw [List.length_append, List.length_drop]; show _ + 1 + _ ≤ _; omega), fun P nP => ?_⟩
          have fP := off_new (o := .lst (xs.take at_ ++ [xv] ++ xs.drop at_)) lv nP
          have lv := lv.put (o := .lst (xs.take at_ ++ [xv] ++ xs.drop at_)) nP
          have B := B.same (same_upd (o := .lst (xs.take at_ ++ [xv] ++ xs.drop at_)) nP)
          have sc := sc.trans (sm_put (S := [d, c]) (o := .lst (xs.take at_ ++ [xv] ++ xs.drop at_)) nP)
          have dp := dp_same ((sm_put (S := S) (o := .lst (xs.take at_ ++ [xv] ++ xs.drop at_)) nP)) dp
          have dax := dpAll_same ((sm_put (S := S) (o := .lst (xs.take at_ ++ [xv] ++ xs.drop at_)) nP)) dax
          have dpv := dp_same ((sm_put (S := S) (o := .lst (xs.take at_ ++ [xv] ++ xs.drop at_)) nP)) dpv
          generalize upd H10 P (.lst (xs.take at_ ++ [xv] ++ xs.drop at_)) = HF at fP lv B sc dp dax dpv ⊢
          have daz := dpAll_app' (dpAll_app' (dpAll_take at_ dax) (.cons dpv .nil)) (dpAll_drop at_ dax)
          have bz := bup (((bt at_).app (Bds.one bx1)).app (bd2 at_)) (by omega)
          have lz : (ds.take at_ ++ [x1] ++ ds.drop at_).length ≤ W + 1 := by rw [List.length_append, List.length_append, List.length_drop]; show _ + 1 + _ ≤ _; omega
          obtain ⟨r1, r2⟩ := fin _ P _ _ (B.mono (by omega)) sc (om _ _ fP) (dpAll_same om daz) bz lz
          have dHF := dp_off dp
          refine ⟨_, rfl, _, .ty _, _, _, isListD _, rfl, .ty _, tyx_dp dHF, kit_list dHF, _, rfl, ?_⟩
          cases hL : isListD e with
          | true => exact iteT ⟨_, rfl, r1⟩
          | false => exact iteF ⟨_, rfl, P, _, rfl, .inl ⟨SqL.of (at_off fP), fun u nu => r2 u nu⟩⟩
        refine ⟨_, rfl, rfl, _, rfl, ite2 (fun h3 => ?_) (fun h3 => ?_)⟩
        · obtain ⟨y3, g3, ey3, da3, by3, ly3, ll3⟩ := cut_dp dax bds (some at_) (some ((at_ : Int) + 2))
          have l32 : y3.length ≤ 2 := by rw [← ey3]; exact cut_two _ _
          refine ⟨_, rfl, _, rfl, _, rfl, _, rfl, _, rfl, _, _, rfl, rfl, _, rfl, I, _, rfl, SqL.of hI7, fun e3 ne3 => ?_⟩
          rw [ey3]
          have hI8 := same_upd (o := .lst y3) ne3 _ _ hI7
          have fe3 := off_new (o := .lst y3) lv ne3
          have lv := lv.put (o := .lst y3) ne3
          have B := B.same (same_upd (o := .lst y3) ne3)
          have sc := sc.trans (sm_put (S := [d, c]) (o := .lst y3) ne3)
          have fe1 := (sm_put (S := S) (o := .lst y3) ne3) _ _ fe1
          have dp := dp_same ((sm_put (S := S) (o := .lst y3) ne3)) dp
          have dax := dpAll_same ((sm_put (S := S) (o := .lst y3) ne3)) dax
          have da3 := dpAll_same ((sm_put (S := S) (o := .lst y3) ne3)) da3
          generalize upd H7 e3 (.lst y3) = H8 at fe3 lv B sc fe1 hI8 dp dax da3 ⊢
          refine ⟨e3, _, rfl, SqL.of (at_off fe3), fun e4 ne4 => ?_⟩
          have hI9 := same_upd (o := .lst y3.reverse) ne4 _ _ hI8
          have fe4 := off_new (o := .lst y3.reverse) lv ne4
          have lv := lv.put (o := .lst y3.reverse) ne4
          have B := B.same (same_upd (o := .lst y3.reverse) ne4)
          have sc := sc.trans (sm_put (S := [d, c]) (o := .lst y3.reverse) ne4)
          have fe1 := (sm_put (S := S) (o := .lst y3.reverse) ne4) _ _ fe1
          have dp := dp_same ((sm_put (S := S) (o := .lst y3.reverse) ne4)) dp
          have dax := dpAll_same ((sm_put (S := S) (o := .lst y3.reverse) ne4)) dax
          have da3 := dpAll_same ((sm_put (S := S) (o := .lst y3.reverse) ne4)) da3
          generalize upd H8 e4 (.lst y3.reverse) = H9 at fe4 lv B sc fe1 hI9 dp dax da3 ⊢
          refine ⟨e1, e4, _, _, rfl, rfl, at_off fe1, at_off fe4, big (by rw [List.length_reverse]; omega), fun e5 ne5 => ?_⟩
          have hI10 := same_upd (o := .lst (xs.take at_ ++ y3.reverse)) ne5 _ _ hI9
          have fe5 := off_new (o := .lst (xs.take at_ ++ y3.reverse)) lv ne5
          have lv := lv.put (o := .lst (xs.take at_ ++ y3.reverse)) ne5
          have B := B.same (same_upd (o := .lst (xs.take at_ ++ y3.reverse)) ne5)
          have sc := sc.trans (sm_put (S := [d, c]) (o := .lst (xs.take at_ ++ y3.reverse)) ne5)
          have dp := dp_same ((sm_put (S := S) (o := .lst (xs.take at_ ++ y3.reverse)) ne5)) dp
          have dax := dpAll_same ((sm_put (S := S) (o := .lst (xs.take at_ ++ y3.reverse)) ne5)) dax
          have da3 := dpAll_same ((sm_put (S := S) (o := .lst (xs.take at_ ++ y3.reverse)) ne5)) da3
          generalize upd H9 e5 (.lst (xs.take at_ ++ y3.reverse)) = H10 at fe5 lv B sc hI10 dp dax da3 ⊢
          refine ⟨_, rfl, _, rfl, _, _, rfl, rfl, _, rfl, I, _, rfl, SqL.of hI10, fun e6 ne6 => ?_⟩
          rw [show ((at_ : Nat) : Int) + 2 = ((at_ + 2 : Nat) : Int) by omega, cut_tail]
          have fe6 := off_new (o := .lst (xs.drop (at_ + 2))) lv ne6
          have lv := lv.put (o := .lst (xs.drop (at_ + 2))) ne6
          have B := B.same (same_upd (o := .lst (xs.drop (at_ + 2))) ne6)
          have sc := sc.trans (sm_put (S := [d, c]) (o := .lst (xs.drop (at_ + 2))) ne6)
          have fe5 := (sm_put (S := S) (o := .lst (xs.drop (at_ + 2))) ne6) _ _ fe5
          have dp := dp_same ((sm_put (S := S) (o := .lst (xs.drop (at_ + 2))) ne6)) dp
          have dax := dpAll_same ((sm_put (S := S) (o := .lst (xs.drop (at_ + 2))) ne6)) dax
          have da3 := dpAll_same ((sm_put (S := S) (o := .lst (xs.drop (at_ + 2))) ne6)) da3
          generalize upd H10 e6 (.lst (xs.drop (at_ + 2))) = H11 at fe6 lv B sc fe5 dp dax da3 ⊢
          refine ⟨e5, e6, _, _, rfl, rfl, at_off fe5, at_off fe6, big (by rw [List.length_append, List.length_reverse, List.length_drop]; omega), fun P nP => ?_⟩
          have fP := off_new (o := .lst (xs.take at_ ++ y3.reverse ++ xs.drop (at_ + 2))) lv nP
          have lv := lv.put (o := .lst (xs.take at_ ++ y3.reverse ++ xs.drop (at_ + 2))) nP
          have B := B.same (same_upd (o := .lst (xs.take at_ ++ y3.reverse ++ xs.drop (at_ + 2))) nP)
          have sc := sc.trans (sm_put (S := [d, c]) (o := .lst (xs.take at_ ++ y3.reverse ++ xs.drop (at_ + 2))) nP)
          have dp := dp_same ((sm_put (S := S) (o := .lst (xs.take at_ ++ y3.reverse ++ xs.drop (at_ + 2))) nP)) dp
          have dax := dpAll_same ((sm_put (S := S) (o := .lst (xs.take at_ ++ y3.reverse ++ xs.drop (at_ + 2))) nP)) dax
          have da3 := dpAll_same ((sm_put (S := S) (o := .lst (xs.take at_ ++ y3.reverse ++ xs.drop (at_ + 2))) nP)) da3
          generalize upd H11 P (.lst (xs.take at_ ++ y3.reverse ++ xs.drop (at_ + 2))) = HF at fP lv B sc dp dax da3 ⊢
          have daz := dpAll_app' (dpAll_app' (dpAll_take at_ dax) (dpAll_rev da3)) (dpAll_drop (at_ + 2) dax)
          have bz := bup (((bt at_).app by3.rev).app (bd2 (at_ + 2))) (by omega)
          have l33 : g3.length ≤ ds.length - at_ := by
            rw [← ll3, ← ey3, show ((at_ : Nat) : Int) + 2 = ((at_ + 2 : Nat) : Int) by omega]
            have := cut_rest xs at_ (at_ + 2) (by omega)
            rw [← lx2]; exact this
          have lz : (ds.take at_ ++ g3.reverse ++ ds.drop (at_ + 2)).length ≤ W + 1 := by rw [List.length_append, List.length_append, List.length_drop, List.length_reverse]; omega
          obtain ⟨r1, r2⟩ := fin _ P _ _ (B.mono (by omega)) sc (om _ _ fP) (dpAll_same om daz) bz lz
          have dHF := dp_off dp
          refine ⟨_, rfl, _, .ty _, _, _, isListD _, rfl, .ty _, tyx_dp dHF, kit_list dHF, _, rfl, ?_⟩
          cases hL : isListD e with
          | true => exact iteT ⟨_, rfl, r1⟩
          | false => exact iteF ⟨_, rfl, P, _, rfl, .inl ⟨SqL.of (at_off fP), fun u nu => r2 u nu⟩⟩
        refine ⟨_, rfl, rfl, _, rfl, ite2 (fun h4 => ?_) (fun h4 => ?_)⟩
        · refine ⟨_, rfl, I, _, rfl, SqL.of hI7, fun P nP => ?_⟩
          have fP := off_new (o := .lst xs.reverse) lv nP
          have lv := lv.put (o := .lst xs.reverse) nP
          have B := B.same (same_upd (o := .lst xs.reverse) nP)
          have sc := sc.trans (sm_put (S := [d, c]) (o := .lst xs.reverse) nP)
          have dp := dp_same ((sm_put (S := S) (o := .lst xs.reverse) nP)) dp
          have dax := dpAll_same ((sm_put (S := S) (o := .lst xs.reverse) nP)) dax
          generalize upd H7 P (.lst xs.reverse) = HF at fP lv B sc dp dax ⊢
          have daz := dpAll_rev dax
          have bz := bup bds.rev (by omega)
          have lz : ds.reverse.length ≤ W + 1 := by rw [List.length_reverse]; omega
          obtain ⟨r1, r2⟩ := fin _ P _ _ (B.mono (by omega)) sc (om _ _ fP) (dpAll_same om daz) bz lz
          have dHF := dp_off dp
          refine ⟨_, rfl, _, .ty _, _, _, isListD _, rfl, .ty _, tyx_dp dHF, kit_list dHF, _, rfl, ?_⟩
          cases hL : isListD e with
          | true => exact iteT ⟨_, rfl, r1⟩
          | false => exact iteF ⟨_, rfl, P, _, rfl, .inl ⟨SqL.of (at_off fP), fun u nu => r2 u nu⟩⟩
        refine ⟨_, rfl, rfl, _, rfl, ite2 (fun h5 => ?_) (fun h5 => ?_)⟩
        · refine ⟨_, rfl, _, rfl, _, rfl, d, c, L, S, _, .non, .none, 9, 0, 4, 0, 0, ys, rfl, B, (by omega), hd, hc, lv, .non, fL, hy, ly, bd_none, (by decide), (by decide), (by decide), fun H8 y e' B8 s8 dy by_ => ?_⟩
          have hI8 := sm2_at s8 Id Ic hI7
          have lv := lv.st B8 s8
          have sc := sc.trans s8
          have B := B8
          have fe1 := (sm_two hd hc s8) _ _ fe1
          have dp := dp_same ((sm_two hd hc s8)) dp
          have dax := dpAll_same ((sm_two hd hc s8)) dax
          refine ⟨(by show 1 ≤ sizeLine; decide), fun e3 ne3 => ?_⟩
          have hI9 := same_upd (o := .lst [y]) ne3 _ _ hI8
          have fe3 := off_new (o := .lst [y]) lv ne3
          have lv := lv.put (o := .lst [y]) ne3
          have B := B.same (same_upd (o := .lst [y]) ne3)
          have sc := sc.trans (sm_put (S := [d, c]) (o := .lst [y]) ne3)
          have fe1 := (sm_put (S := S) (o := .lst [y]) ne3) _ _ fe1
          have dp := dp_same ((sm_put (S := S) (o := .lst [y]) ne3)) dp
          have dax := dpAll_same ((sm_put (S := S) (o := .lst [y]) ne3)) dax
          have dy := dp_same ((sm_put (S := S) (o := .lst [y]) ne3)) dy
          generalize upd H8 e3 (.lst [y]) = H9 at fe3 lv B sc fe1 hI9 dp dax dy ⊢
          refine ⟨e1, e3, _, _, rfl, rfl, at_off fe1, at_off fe3, big (by show _ + 1 ≤ _; omega), fun e4 ne4 => ?_⟩
          have hI10 := same_upd (o := .lst (xs.take at_ ++ [y])) ne4 _ _ hI9
          have fe4 := off_new (o := .lst (xs.take at_ ++ [y])) lv ne4
          have lv := lv.put (o := .lst (xs.take at_ ++ [y])) ne4
          have B := B.same (same_upd (o := .lst (xs.take at_ ++ [y])) ne4)
          have sc := sc.trans (sm_put (S := [d, c]) (o := .lst (xs.take at_ ++ [y])) ne4)
          have dp := dp_same ((sm_put (S := S) (o := .lst (xs.take at_ ++ [y])) ne4)) dp
          have dax := dpAll_same ((sm_put (S := S) (o := .lst (xs.take at_ ++ [y])) ne4)) dax
          have dy := dp_same ((sm_put (S := S) (o := .lst (xs.take at_ ++ [y])) ne4)) dy
          generalize upd H9 e4 (.lst (xs.take at_ ++ [y])) = H10 at fe4 lv B sc hI10 dp dax dy ⊢
          refine ⟨_, rfl, _, rfl, _, rfl, I, _, rfl, SqL.of hI10, fun e5 ne5 => ?_⟩
          rw [cut_tail]
          have fe5 := off_new (o := .lst (xs.drop at_)) lv ne5
          have lv := lv.put (o := .lst (xs.drop at_)) ne5
          have B := B.same (same_upd (o := .lst (xs.drop at_)) ne5)
          have sc := sc.trans (sm_put (S := [d, c]) (o := .lst (xs.drop at_)) ne5)
          have fe4 := (sm_put (S := S) (o := .lst (xs.drop at_)) ne5) _ _ fe4
          have dp := dp_same ((sm_put (S := S) (o := .lst (xs.drop at_)) ne5)) dp
          have dax := dpAll_same ((sm_put (S := S) (o := .lst (xs.drop at_)) ne5)) dax
          have dy := dp_same ((sm_put (S := S) (o := .lst (xs.drop at_)) ne5)) dy
          generalize upd H10 e5 (.lst (xs.drop at_)) = H11 at fe5 lv B sc fe4 dp dax dy ⊢
          refine ⟨e4, e5, _, _, rfl, rfl, at_off fe4, at_off fe5, big (by rw [List.length_append, List.length_drop]; show _ + 1 + _ ≤ _; omega), fun P nP => ?_⟩
          have fP := off_new (o := .lst (xs.take at_ ++ [y] ++ xs.drop at_)) lv nP
          have lv := lv.put (o := .lst (xs.take at_ ++ [y] ++ xs.drop at_)) nP
          have B := B.same (same_upd (o := .lst (xs.take at_ ++ [y] ++ xs.drop at_)) nP)
          have sc := sc.trans (sm_put (S := [d, c]) (o := .lst (xs.take at_ ++ [y] ++ xs.drop at_)) nP)
          have dp := dp_same ((sm_put (S := S) (o := .lst (xs.take at_ ++ [y] ++ xs.drop at_)) nP)) dp
          have dax := dpAll_same ((sm_put (S := S) (o := .lst (xs.take at_ ++ [y] ++ xs.drop at_)) nP)) dax
          have dy := dp_same ((sm_put (S := S) (o := .lst (xs.take at_ ++ [y] ++ xs.drop at_)) nP)) dy
          generalize upd H11 P (.lst (xs.take at_ ++ [y] ++ xs.drop at_)) = HF at fP lv B sc dp dax dy ⊢
          have daz := dpAll_app' (dpAll_app' (dpAll_take at_ dax) (.cons dy .nil)) (dpAll_drop at_ dax)
          have bz : Bds (n + 12) (m + 1000000) (3 * C + 10 * n + 7990 + X) (D + 1) (W + 1) (ds.take at_ ++ [e'] ++ ds.drop at_) := (((((bt at_).mono (by omega) (by omega) (Nat.le_refl _) (by omega) (by omega)).app (Bds.one (by_.mono (by omega) (by omega) (Nat.le_refl _) (by omega) (by omega)))).app ((bd2 at_).mono (by omega) (by omega) (Nat.le_refl _) (by omega) (by omega)))).mono (Nat.le_refl _) (Nat.le_refl _) (by omega) (Nat.le_refl _) (Nat.le_refl _)
          have lz : (ds.take at_ ++ [e'] ++ ds.drop at_).length ≤ W + 1 := by rw [List.length_append, List.length_append, List.length_drop]; show _ + 1 + _ ≤ _; omega
          obtain ⟨r1, r2⟩ := fin _ P _ _ (B.mono (by omega)) sc (om _ _ fP) (dpAll_same om daz) bz lz
          have dHF := dp_off dp
          refine ⟨_, rfl, _, .ty _, _, _, isListD _, rfl, .ty _, tyx_dp dHF, kit_list dHF, _, rfl, ?_⟩
          cases hL : isListD e with
          | true => exact iteT ⟨_, rfl, r1⟩
          | false => exact iteF ⟨_, rfl, P, _, rfl, .inl ⟨SqL.of (at_off fP), fun u nu => r2 u nu⟩⟩
        obtain ⟨x1, g1, dpv⟩ := dpAll_at dax (List.getElem?_eq_getElem (show at_ < xs.length by omega))
        have bx1 : Bd n m C D W x1 := bds.mem (List.mem_of_getElem? g1)
        have li : at_ < xs.length := by omega
        refine ⟨_, rfl, _, rfl, _, rfl, I, _, _, _, rfl, rfl, SqL.of hI7, atI_nat (List.getElem?_eq_getElem li), _, rfl, d, c, L, S, _, _, x1, n, m, C, D, W, ys, rfl, B, (by omega), hd, hc, lv, dpv, fL, hy, ly, (by omega), bx1, n9, n5, m9, W1, W9, fun H8 y e' B8 s8 dy by_ => ?_⟩
        have hI8 := sm2_at s8 Id Ic hI7
        have lv := lv.st B8 s8
        have sc := sc.trans s8
        have B := B8
        have dp := dp_same ((sm_two hd hc s8)) dp
        have dax := dpAll_same ((sm_two hd hc s8)) dax
        refine ⟨_, rfl, _, rfl, I, _, _, at_, rfl, rfl, hI8, Evl.ixN_nat li, ?_⟩
        have sw : Sm S H8 (upd H8 I (.lst (xs.set at_ y))) := sm_wr (by rw [eS]; exact List.mem_cons_self)
        have daxs := dpAll_set (i := at_) (dpAll_same sw dax) (dp_same sw dy)
        have dp := dp_same sw dp
        have hIF : upd H8 I (.lst (xs.set at_ y)) I = some (.lst (xs.set at_ y)) := upd_same
        have B := B.put (o := .lst (xs.set at_ y)) Id.symm Ic.symm
        have sc : Sm [d, c] H (upd H8 I (.lst (xs.set at_ y))) := smp sc nI0
        generalize upd H8 I (.lst (xs.set at_ y)) = HF at daxs dp hIF B sc ⊢
        have bs : Bds (n + 12) (m + 1000000) (C + X + 2) (D + 1) (W + 1) (ds.set at_ e') := Bds.set (bds.mono (by omega) (by omega) (Nat.le_refl _) (by omega) (by omega)) (by rw [hX] at by_; exact by_)
        have ls : (ds.set at_ e').length ≤ W + 1 := by rw [List.length_set]; omega
        obtain ⟨r1, r2⟩ := fin _ I _ _ (B.mono (by omega)) sc (by rw [off_out IS]; exact hIF) (dpAll_same om daxs) (bs.mono (Nat.le_refl _) (Nat.le_refl _) (by omega) (Nat.le_refl _) (Nat.le_refl _)) ls
        have dHF := dp_off dp
        refine ⟨_, rfl, _, .ty _, _, _, isListD _, rfl, .ty _, tyx_dp dHF, kit_list dHF, _, rfl, ?_⟩
        cases hL : isListD e with
        | true => exact iteT ⟨_, rfl, r1⟩
        | false => exact iteF ⟨_, rfl, I, _, rfl, .inl ⟨SqL.of hIF, fun u nu => r2 u nu⟩⟩

end
end Pot

namespace Pot
open PySem PySem.Spec PyProof.Rows L2
section
variable {P : Program} {w : World} {K : PySem.W.Frag} {mg : Str → Option Value} {base : Heap}
/-! ### _law_told_right and the law -/
def spTold (K : PySem.W.Frag) : Sp := fun vs H Q _ => ∃ (x : V) (e : PyData) (n m C D W : Nat), vs = [x] ∧ Dp K H x e ∧ Bd n m C D W e ∧ m ≤ 10 ^ 12 ∧ C ≤ 16777216 ∧ D ≤ 60 ∧ W ≤ 4000 ∧ ∀ H', Same H H' → Q (.bl true) H'
abbrev s__law_told_right : Stmt := topS 20
def n__law_told_right : List Str := ["_law_thing", "_law_text", "_law_found"]
theorem sc__law_told_right : FnScope n__law_told_right ["_law_thing"] (defScope s__law_told_right) := ⟨rfl, rfl, rfl, by decide +kernel, rfl, by decide +kernel, by decide +kernel⟩
theorem ok_told {f : Addr} {fd : FuncData} {k : Nat} (F : Fun K "_law_told_right" "_law_told_right" s__law_told_right f fd) (T : Txt mg) (c_is_kinds : Cl P w K mg base (k + 3) "is_kinds" (spKinds K)) (c__law_due : Cl P w K mg base (k + 3) "_law_due" (spKinds K)) : FnG P w K mg base (k + 4) f fd ["_law_thing"] (spTold K) := by
  refine okG F sc__law_told_right (fun vs H Q E h => ?_) (fun cdv A outer s H vs Q gd hr h => ?_)
  · obtain ⟨x, e, n, m, C, D, W, rfl, _⟩ := h
    rfl
  · obtain ⟨x, e, n, m, C, D, W, rfl, dp, bd, m2, hC, hD, hW, q⟩ := h
    have nd := sc__law_told_right.nd
    have hu64 := hr.units
    refine ⟨_, (pss_cons (ps_par (i := 1) (j := 2) rfl nd rfl rfl (by decide) rfl rfl (pa_cons (pe_callB (kc_reprA (K := K) gd hu64) (by rfl) T.repr (by decide +kernel) (pa_cons (pv 0) pa_nil)) (pa_cons (pe_cl c_is_kinds hr (by omega) (by rfl) (pa_cons (pv 0) pa_nil)) pa_nil)) rfl)
      (pss_one (ps_ret (pe_and (pe_callB (kc_isi (K := K)) (by rfl) T.isinstance (by decide +kernel) (pa_cons (pv 2) (pa_cons (pe_bltn (v := .ty "bool") (by rfl) T.bool (by decide +kernel) rfl) pa_nil))) (pe_and (pe_cmpR op_eq (pv 2) (pe_cl c__law_due hr (by omega) (by rfl) (pa_cons (pv 0) pa_nil)) (nomark _)) (pe_one (pe_cmpR op_eq (pe_callB (kc_reprA (K := K) gd hu64) (by rfl) T.repr (by decide +kernel) (pa_cons (pv 0) pa_nil)) (pv 1) (nomark _)))))))), ?_⟩
    have fine := gd_fineW m2 _ bd.t.g
    have dep := Nat.le_trans bd.t.d hD
    have cst := Nat.le_trans bd.t.c hC
    have wid := Nat.le_trans bd.t.w hW
    refine ⟨_, rfl, x, e, rfl, dp, fine, dep, cst, ?_⟩
    refine ⟨_, rfl, x, e, m, rfl, dp, bd.t.g, wid, fun H1 s1 => ⟨_, _, rfl, ?_⟩⟩
    have db : Dp K H1 (.bl (kindsD e)) (.bool (kindsD e)) := .bl _
    refine ⟨_, rfl, _, .ty _, _, _, isBoolD _, rfl, .ty _, tyx_dp db, kit_bool db, _, rfl, iteT ?_⟩
    refine ⟨_, rfl, _, rfl, x, e, m, rfl, dp_same s1 dp, bd.t.g, wid, fun H2 s2 => ?_⟩
    refine ⟨rfl, _, rfl, ?_⟩
    rw [decide_eq_true rfl]
    refine iteT ⟨_, rfl, x, e, rfl, dp_same (s1.trans s2) dp, fine, dep, cst, _, rfl, rfl, ?_⟩
    rw [decide_eq_true rfl]
    exact q _ (s1.trans s2)
def spLaw (K : PySem.W.Frag) : Sp := fun vs H Q _ => ∃ (a : Addr) (ns : List Int), vs = [.ref a] ∧ SqL K H a (ns.map V.int) ∧ ns.length ≤ 63 ∧ ∀ H', Q (.bl true) H'
theorem nm_name {z : Str} (h : Nm z) : nameD (.str z) = true := by
  show (decide _ && (decide _ && _)) = true
  have h1 := h.1.1
  have h2 := h.2
  rw [decide_eq_true (by omega), decide_eq_true (by omega), Bool.true_and, Bool.true_and, List.all_eq_true]
  intro c hc
  have ec : abc.cps.toList = (List.range 26).map (97 + ·) := by decide +kernel
  have := h.1.2 c hc
  refine decide_eq_true ?_
  rw [ec]
  exact List.mem_map.mpr ⟨c - 97, List.mem_range.mpr (by omega), by omega⟩
abbrev Knd : Type := Str × Int × Int
def kD (r : Knd) : PyData := .tuple [.str r.1, .int r.2.1, .int r.2.2]
structure KOk (r : Knd) : Prop where
  n : Nm r.1
  a : 1 ≤ r.2.1 ∧ r.2.1 ≤ 9
  b : 1 ≤ r.2.2 ∧ r.2.2 ≤ 99
theorem kind_ok {r : Knd} (h : KOk r) : kindD (kD r) = true := by
  show (nameD (.str r.1) && ((decide _ && decide _) && (decide _ && decide _))) = true
  rw [nm_name h.n, decide_eq_true h.a.1, decide_eq_true h.a.2, decide_eq_true h.b.1, decide_eq_true h.b.2]; rfl
theorem kinds_ok {rs : List Knd} (h : ∀ r ∈ rs, KOk r) (hr : (rs.map (·.1)).Pairwise sLt) (h1 : 1 ≤ rs.length) : kindsD (.tuple (rs.map kD)) = decide ((rs.length : Int) < 21) := by
  show (decide _ && (decide _ && ((rs.map kD).all kindD && risS ((rs.map kD).map strOf)))) = _
  have e1 : (rs.map kD).all kindD = true := by
    rw [List.all_eq_true]
    intro d hd
    obtain ⟨r, hr, rfl⟩ := List.mem_map.mp hd
    exact kind_ok (h r hr)
  have e2 : (rs.map kD).map strOf = rs.map (·.1) := by rw [List.map_map]; rfl
  rw [e1, e2, risS_pair.mpr hr, List.length_map, decide_eq_true (show (1 : Int) ≤ (rs.length : Nat) by omega), Bool.true_and, Bool.and_true, Bool.and_true]
  exact decide_eq_decide.mpr ⟨fun h => by omega, fun h => by omega⟩
theorem bd_kind {r : Knd} (h : KOk r) : Bd 9 99 3945 1 21 (kD r) := by
  have b1 : Bd 9 99 92 0 21 (.str r.1) := (bd_str (Nat.le_trans h.n.1.1 (by decide)) (by decide) h.n.ascii).mono (Nat.le_refl _) (Nat.le_refl _) (by decide) (Nat.le_refl _) (Nat.zero_le _)
  have bi : ∀ {i : Int}, 1 ≤ i ∧ i ≤ 99 → Bd 9 99 1921 0 21 (.int i) := fun h => (bd_int (by omega)).mono (Nat.le_refl _) (Nat.le_refl _) (Nat.le_refl _) (Nat.le_refl _) (Nat.zero_le _)
  have b4 : Bds 9 99 (92 + 2 + (1921 + 2 + (1921 + 2))) 0 21 [.str r.1, .int r.2.1, .int r.2.2] := (Bds.one b1).app ((Bds.one (bi ⟨h.a.1, by have := h.a.2; omega⟩)).app (Bds.one (bi h.b)))
  exact (b4.tuple (by show 3 ≤ 21; decide)).mono (Nat.le_refl _) (Nat.le_refl _) (by decide) (Nat.le_refl _) (Nat.le_refl _)
theorem bds_kinds : ∀ {l : List Knd}, (∀ r ∈ l, KOk r) → Bds 9 99 (3947 * l.length) 1 21 (l.map kD)
  | [], _ => Bds.nil
  | r :: l, h => by
    have h1 := Bds.one (bd_kind (h r List.mem_cons_self))
    have h2 := bds_kinds (l := l) fun x hx => h x (List.mem_cons_of_mem _ hx)
    exact (h1.app h2).mono (Nat.le_refl _) (Nat.le_refl _) (by rw [List.length_cons]; omega) (Nat.le_refl _) (Nat.le_refl _)
abbrev s_law : Stmt := topS 21
def n_law : List Str := ["_law_script", "_law_state", "_law_many", "_law_names_here", "_law_kinds", "_law_turn", "_law_thing", "_law_name_here"]
theorem sc_law : FnScope n_law ["_law_script"] (defScope s_law) := ⟨rfl, rfl, rfl, by decide +kernel, rfl, by decide +kernel, by decide +kernel⟩
theorem ok_law {f : Addr} {fd : FuncData} {k : Nat} (F : Fun K "law" "law" s_law f fd) (T : Txt mg) (c__law_begin : Cl P w K mg base (k + 1) "_law_begin" (spBegin K)) (c__law_take : Cl P w K mg base (k + 1) "_law_take" spTake) (c__law_names : Cl P w K mg base (k + 2) "_law_names" spNames) (c__law_due : Cl P w K mg base (k + 3) "_law_due" (spKinds K)) (c__law_told_right : ClG P w K mg base (k + 4) "_law_told_right" [] (spTold K)) (c__law_other : Cl P w K mg base (k + 3) "_law_other" (spOther K)) (c__law_bent : Cl P w K mg base (k + 10) "_law_bent" (spBent K 6)) : FnG P w K mg base (k + 11) f fd ["_law_script"] (spLaw K) := by
  refine okG F sc_law (fun vs H Q E h => ?_) (fun cdv A outer s H vs Q gd hr h => ?_)
  · obtain ⟨a, ns, rfl, _⟩ := h
    rfl
  · obtain ⟨a, ns, rfl, hS, h63, q⟩ := h
    have nd := sc_law.nd
    have hu64 := hr.units
    /- 0 _law_script, 1 _law_state, 2 _law_many, 3 _law_names_here, 4 _law_kinds, 5 _law_turn, 6 _law_thing, 7 _law_name_here -/
    refine ⟨_, (pss_cons (ps_set (i := 1) nd rfl (.inr rfl) (pe_cl c__law_begin hr (by omega) (by rfl) (pa_cons (pv 0) pa_nil)))
      (pss_cons (ps_set (i := 2) nd rfl (.inl rfl) (pe_ix (kx_list (K := K)) (pe_lst (pa_cons pe_int (pa_cons pe_int (pa_cons (pe_op op_add pe_int (pe_cl c__law_take hr (by omega) (by rfl) (pa_cons (pv 1) (pa_cons pe_int pa_nil)))) pa_nil)))) (pe_callB (call_min2 rfl) (by rfl) T.min (by decide +kernel) (pa_cons pe_int (pa_cons (pe_cl c__law_take hr (by omega) (by rfl) (pa_cons (pv 1) (pa_cons pe_int pa_nil))) pa_nil))) (fun _ _ => rfl)))
      (pss_cons (ps_set (i := 3) nd rfl (.inl rfl) (pe_callB (kc_sortedS (K := K)) (by rfl) T.sorted (by decide +kernel) (pa_cons (pe_cl c__law_names hr (by omega) (by rfl) (pa_cons (pv 1) (pa_cons (pv 2) pa_nil))) pa_nil)))
      (pss_cons (ps_set (i := 4) nd rfl (.inl rfl) (pe_callTy (kc_tuple (K := K)) (by rfl) T.tuple (by decide +kernel) (pa_cons (pe_lc (own := [("_law_name_here", 7)]) rfl nd (ki_list (K := K) (pv 3)) (blkOk_by (N := n_law) (sc := defScope s_law) (by decide +kernel)) (fun _ _ _ _ _ => (pg_name (i := 7) nd rfl (.inl rfl))) (fun _ _ _ _ _ => pts_nil) (fun _ _ _ _ _ => (pe_tup (pa_cons (pv 7) (pa_cons (pe_op op_add pe_int (pe_cl c__law_take hr (by omega) (by rfl) (pa_cons (pv 1) (pa_cons pe_int pa_nil)))) (pa_cons (pe_op op_add pe_int (pe_cl c__law_take hr (by omega) (by rfl) (pa_cons (pv 1) (pa_cons pe_int pa_nil)))) pa_nil)))))) pa_nil)))
      (pss_cons (ps_if ((pw_or (pt_cmpR op_ne (pe_cl c__law_due hr (by omega) (by rfl) (pa_cons (pv 4) pa_nil)) (pe_cmpR op_lt (pv 2) pe_int (nomark _)) (nomark _)) (pw_or1 (pt_not (pt_val (pe_clG c__law_told_right hr gd (by omega) (by rfl) (pa_cons (pv 4) pa_nil))))))).pt
          pss_never
          pss_nil)
      (pss_cons (ps_for PassesOwn.never rfl (pi_range1 (by rfl) T.range (pa_cons pe_int pa_nil)) (pg_name (i := 5) nd rfl (.inl rfl))
          (pss_cons (ps_set (i := 6) nd rfl (.inl rfl) (pe_cl c__law_bent hr (by omega) (by rfl) (pa_cons (pv 1) (pa_cons (pv 4) (pa_cons (pv 3) pa_nil)))))
          (pss_cons (ps_if (pt_cmpR op_eq (pe_cl c__law_take hr (by omega) (by rfl) (pa_cons (pv 1) (pa_cons pe_int pa_nil))) pe_int (nomark _))
              (pss_one (ps_set (i := 6) nd rfl (.inl rfl) (pe_cl c__law_bent hr (by omega) (by rfl) (pa_cons (pv 1) (pa_cons (pv 6) (pa_cons (pv 3) pa_nil))))))
              pss_nil)
          (pss_one (ps_if ((pw_or (pt_not (pt_val (pe_clG c__law_told_right hr gd (by omega) (by rfl) (pa_cons (pv 6) pa_nil)))) (pw_or1 (pt_not (pt_val (pe_clG c__law_told_right hr gd (by omega) (by rfl) (pa_cons (pe_cl c__law_other hr (by omega) (by rfl) (pa_cons (pv 1) (pa_cons pe_int (pa_cons (pv 3) pa_nil)))) pa_nil))))))).pt
              pss_never
              pss_nil)))))
      (pss_one (ps_ret pe_bl)))))))), ?_⟩
    refine ⟨_, rfl, a, ns, rfl, hS, h63, fun H1 d c s1 B1 nd1 nc1 => ?_⟩
    obtain ⟨S, eS⟩ : ∃ S, S = [d, c] := ⟨_, rfl⟩
    have hd : d ∈ S := by rw [eS]; simp
    have hc : c ∈ S := by rw [eS]; simp
    have lv : Live S H1 := by rw [eS]; exact Live.two B1
    have B := B1
    have sc : Sm [d, c] H1 H1 := Same.refl _
    refine ⟨_, rfl, d, c, 7, _, rfl, (by decide), (by decide), B, by decide, fun H2 r r0 r1 B2 s2 => ?_⟩
    have lv := lv.st B2 s2
    have sc := sc.trans s2
    have B := B2
    refine ⟨_, _, rfl, rfl, (by show 3 ≤ sizeLine; decide), fun p1 np1 => ?_⟩
    have fp1 := off_new (o := .lst [.int 20, .int 21, .int (1 + r)]) lv np1
    have lv := lv.put (o := .lst [.int 20, .int 21, .int (1 + r)]) np1
    have B := B.same (same_upd (o := .lst [.int 20, .int 21, .int (1 + r)]) np1)
    have sc := sc.trans (sm_put (S := [d, c]) (o := .lst [.int 20, .int 21, .int (1 + r)]) np1)
    generalize upd H2 p1 (.lst [.int 20, .int 21, .int (1 + r)]) = H3 at fp1 lv B sc  ⊢
    refine ⟨_, rfl, d, c, 9, _, rfl, (by decide), (by decide), B, by omega, fun H4 r2 r20 r21 B4 s4 => ?_⟩
    have lv := lv.st B4 s4
    have sc := sc.trans s4
    have B := B4
    have fp1 := (sm_two hd hc s4) _ _ fp1
    obtain ⟨mn, emn, mn1, mn2⟩ : ∃ mn : Nat, atI [V.int 20, .int 21, .int (1 + r)] (if r2 < 2 then r2 else 2) = some (.int (mn : Int)) ∧ 1 ≤ mn ∧ mn ≤ 21 := by
      have h : (if r2 < 2 then r2 else 2) = 0 ∨ (if r2 < 2 then r2 else 2) = 1 ∨ (if r2 < 2 then r2 else 2) = 2 := by split <;> omega
      rcases h with h | h | h
      · rw [h]; exact ⟨20, rfl, by decide, by decide⟩
      · rw [h]; exact ⟨21, rfl, by decide, by decide⟩
      · rw [h]; exact ⟨(1 + r).toNat, by show some (V.int _) = _; congr 2; omega, by omega, by omega⟩
    refine ⟨_, _, rfl, p1, _, _, _, rfl, rfl, SqL.of (at_off fp1), emn, ?_⟩
    refine ⟨_, rfl, _, rfl, d, c, _, mn, rfl, B, (by omega), (by omega), fun H5 N ys B5 s5 nN hN ly wy ndy => ?_⟩
    have lv := lv.st B5 s5
    have sc := sc.trans s5
    have B := B5
    refine ⟨N, ys, rfl, SqL.of hN, (by omega), fun zs Z hz hsort nZ => ?_⟩
    have fZ := off_new (o := .lst (zs.map V.str)) lv nZ
    have lv := lv.put (o := .lst (zs.map V.str)) nZ
    have B := B.same (same_upd (o := .lst (zs.map V.str)) nZ)
    have sc := sc.trans (sm_put (S := [d, c]) (o := .lst (zs.map V.str)) nZ)
    generalize upd H5 Z (.lst (zs.map V.str)) = H6 at fZ lv B sc  ⊢
    have lz : zs.length = mn := by rw [hz.length_eq]; exact ly
    have nz : ∀ y ∈ zs, Nm y := fun y hy => wy y (hz.mem_iff.mp hy)
    have rz : zs.Pairwise sLt := sorted_lt hsort (hz.nodup_iff.mpr ndy)
    obtain ⟨n0, en0⟩ : ∃ n0, n0 = 0 + 1 + 1 + 13 + mn := ⟨_, rfl⟩
    refine ⟨_, rfl, Z, rfl, ⟨_, SqL.of (at_off fZ)⟩, fun D nD => ?_⟩
    have DS := lv.out nD
    have eoff : ∀ o, off (upd H6 D o) (D :: S) = off H6 S := fun o => off_fresh nD
    have Dd : D ≠ d := B.nd nD
    have Dc : D ≠ c := B.nc nD
    rw [← en0] at B
    refine lc_it (walk_list (xs := zs.map V.str)) (fun i Hx => ∃ (rs : List Knd) (acc : List V), rs.map (·.1) = zs.take i ∧ (∀ r ∈ rs, KOk r) ∧ StAt Hx d c (n0 + 2 * i) ∧ DpAll K (off Hx (D :: S)) acc (rs.map kD) ∧ Hx D = some (.lst acc) ∧ off Hx (D :: S) Z = some (.lst (zs.map V.str)) ∧ Live (D :: S) Hx) ⟨[], [], rfl, (fun _ h => (List.not_mem_nil h).elim), B.same (same_upd nD), .nil, upd_same, by rw [eoff]; exact fZ, (lv.put nD).cons upd_same⟩ (fun i Hx _ h => by obtain ⟨_, _, _, _, _, _, _, h, _⟩ := h; exact SqL.of (at_off h)) ?_ ?_
    · rintro i y H7 H8 hi ⟨rs, acc, ers, krs, B, dar, hD, fZ, lv⟩ ⟨rfl, gy⟩
      rw [List.getElem?_map] at gy
      obtain ⟨z, gz, rfl⟩ := Option.map_eq_some_iff.mp gy
      have hi2 : i < zs.length := (List.getElem?_eq_some_iff.mp gz).1
      have lrs : rs.length = i := by have := congrArg List.length ers; rw [List.length_map, List.length_take] at this; omega
      have lac : acc.length = i := by have := dpAll_len dar; rw [List.length_map] at this; omega
      obtain ⟨S1, eS1⟩ : ∃ S1, S1 = D :: S := ⟨_, rfl⟩
      have hd1 : d ∈ S1 := by rw [eS1]; exact List.mem_cons_of_mem _ hd
      have hc1 : c ∈ S1 := by rw [eS1]; exact List.mem_cons_of_mem _ hc
      have hD1 : D ∈ S1 := by rw [eS1]; exact List.mem_cons_self
      rw [← eS1] at dar fZ lv ⊢
      refine ⟨rfl, tYes_at ?_⟩
      rw [if_pos rfl]
      refine ⟨_, rfl, _, rfl, d, c, 9, _, rfl, (by decide), (by decide), B, by omega, fun H10 v1 v10 v11 B10 s10 => ⟨_, _, rfl, rfl, ?_⟩⟩
      have hD10 := sm2_at s10 Dd Dc hD
      have dar10 := dpAll_same (sm_two hd1 hc1 s10) dar
      have fZ10 := (sm_two hd1 hc1 s10) _ _ fZ
      have lv10 := lv.st B10 s10
      refine ⟨_, rfl, d, c, 99, _, rfl, (by decide), (by decide), B10, by omega, fun H11 v2 v20 v21 B11 s11 => ⟨_, _, rfl, rfl, ?_⟩⟩
      have hD11 := sm2_at s11 Dd Dc hD10
      have dar11 := dpAll_same (sm_two hd1 hc1 s11) dar10
      have fZ11 := (sm_two hd1 hc1 s11) _ _ fZ10
      have lv11 := lv10.st B11 s11
      refine ⟨(by show 3 ≤ sizeLine; decide), fun t nt => ?_⟩
      have st := same_upd (o := .tup [.str z, .int (1 + v1), .int (1 + v2)]) nt
      have ft := off_new (o := .tup [.str z, .int (1 + v1), .int (1 + v2)]) lv11 nt
      have hD12 := st _ _ hD11
      have dar12 := dpAll_same (sm_put (S := S1) (o := .tup [.str z, .int (1 + v1), .int (1 + v2)]) nt) dar11
      have fZ12 := sm_put (S := S1) (o := .tup [.str z, .int (1 + v1), .int (1 + v2)]) nt _ _ fZ11
      have B12 := B11.same st
      have lv12 := lv11.put (o := .tup [.str z, .int (1 + v1), .int (1 + v2)]) nt
      generalize upd H11 t (.tup [.str z, .int (1 + v1), .int (1 + v2)]) = H12 at ft hD12 dar12 fZ12 B12 lv12 ⊢
      have sw : Sm S1 H12 (upd H12 D (.lst (acc ++ [.ref t]))) := sm_wr hD1
      refine ⟨acc, hD12, (by rw [lac, sizeLine_eq]; omega), rs ++ [(z, 1 + v1, 1 + v2)], acc ++ [.ref t], ?_, ?_, (B12.put Dd.symm Dc.symm).mono (by omega), ?_, upd_same, sw _ _ fZ12, lv12.wr⟩
      · rw [List.map_append, ers, List.take_add_one, gz]; rfl
      · intro r hr
        rcases List.mem_append.mp hr with h | h
        · exact krs r h
        · rw [List.mem_singleton.mp h]
          exact ⟨nz z (List.mem_of_getElem? gz), ⟨by show 1 ≤ 1 + v1; omega, by show 1 + v1 ≤ 9; omega⟩, ⟨by show 1 ≤ 1 + v2; omega, by show 1 + v2 ≤ 99; omega⟩⟩
      · rw [List.map_append]
        exact dpAll_app' (dpAll_same sw dar12) (.cons (dp_same sw (.tup (.inl (.inl ft)) (.cons (.str _) (.cons (.int _) (.cons (.int _) .nil))))) .nil)
    rintro H7 ⟨rs, acc, ers, krs, B, dar, hD, fZ, lv7⟩
    rw [List.length_map] at ers B
    rw [List.take_of_length_le (Nat.le_refl _)] at ers
    have om : Same (off H7 (D :: S)) (off H7 S) := off_mono fun z hz => List.mem_cons_of_mem _ hz
    have dar := dpAll_same om dar
    have fZ := om _ _ fZ
    have lv : Live S H7 := by rw [eS]; exact Live.two B
    have sc : Sm [d, c] H7 H7 := Same.refl _
    refine ⟨D, _, rfl, .inl ⟨SqL.of hD, fun p np => ?_⟩⟩
    have fp := off_new (o := .tup acc) lv np
    have lv := lv.put (o := .tup acc) np
    have B := B.same (same_upd (o := .tup acc) np)
    have sc := sc.trans (sm_put (S := [d, c]) (o := .tup acc) np)
    have fZ := (sm_put (S := S) (o := .tup acc) np) _ _ fZ
    have dar := dpAll_same ((sm_put (S := S) (o := .tup acc) np)) dar
    generalize upd H7 p (.tup acc) = H8 at fp lv B sc fZ dar ⊢
    have dpk : Dp K (off H8 S) (.ref p) (.tuple (rs.map kD)) := .tup (.inl (.inl fp)) dar
    have lrs : rs.length = mn := by rw [← lz, ← ers, List.length_map]
    have bk : Bd 9 99 83000 2 21 (.tuple (rs.map kD)) := ((bds_kinds krs).tuple (by rw [List.length_map]; omega)).mono (Nat.le_refl _) (Nat.le_refl _) (by omega) (Nat.le_refl _) (Nat.le_refl _)
    have ek := kinds_ok krs (by rw [ers]; exact rz) (by omega)
    rw [lz] at B
    clear dar fp hD
    refine ⟨_, rfl, .ref p, _, 99, rfl, dp_off dpk, bk.t.g, Nat.le_trans bk.t.w (by decide), fun H9 s9 => ?_⟩
    have lv := lv.same s9
    have sc := sc.trans (sm_of (S := [d, c]) s9)
    have B := B.same s9
    have fZ := (sm_of (S := S) s9) _ _ fZ
    have dpk := dp_same ((sm_of (S := S) s9)) dpk
    refine ⟨_, rfl, _, _, rfl, rfl, rfl, _, rfl, ?_⟩
    rw [ek, lrs, decide_eq_true rfl]
    refine iteF ?_
    refine ⟨_, rfl, .ref p, _, 9, 99, 83000, 2, 21, rfl, dp_off dpk, bk, by decide, by decide, by decide, by decide, fun H10 s10 => ⟨_, rfl, iteF ?_⟩⟩
    have lv := lv.same s10
    have sc := sc.trans (sm_of (S := [d, c]) s10)
    have B := B.same s10
    have fZ := (sm_of (S := S) s10) _ _ fZ
    have dpk := dp_same ((sm_of (S := S) s10)) dpk
    generalize hK : PyData.tuple (rs.map kD) = kd at dpk bk
    obtain ⟨n1, en1⟩ : ∃ n1, n1 = n0 + 2 * mn := ⟨_, rfl⟩
    rw [← en1] at B
    have n1s : n1 ≤ 200 := by omega
    refine ⟨20, rfl, (by decide), (by decide), ?_⟩
    refine for_it walk_range (fun i σ Hx => ∃ v5 v6, σ = [some (.ref a), some (.ref d), some (.int (mn : Nat)), some (.ref Z), some (.ref p), v5, v6, none] ∧ StAt Hx d c (n1 + 100 * i) ∧ Dp K (off Hx S) (.ref p) kd ∧ off Hx S Z = some (.lst (zs.map V.str))) ⟨_, _, rfl, B, dpk, fZ⟩ (fun _ _ _ _ _ => trivial) ?_ ?_
    · rintro i y σ H11 H12 hi ⟨v5, v6, rfl, B, dpk, fZ⟩ ⟨rfl, rfl⟩
      have hi3 : i < 20 := hi
      have ls : zs.length ≤ 30 := by omega
      generalize hm : n1 + 100 * i = m at B
      have hmm : m < 10000 := by omega
      have lv : Live S H12 := by rw [eS]; exact Live.two B
      have sc : Sm [d, c] H12 H12 := Same.refl _
      refine ⟨_, rfl, _, rfl, _, rfl, d, c, Z, S, _, .ref p, kd, 9, 99, 83000, 2, 21, zs, rfl, B, by omega, hd, hc, lv, dpk, fZ, nz, ls, by decide, bk, by decide, by decide, by decide, by decide, by decide, fun H13 y e B13 s13 dy by_ => ?_⟩
      have lv := lv.st B13 s13
      have sc := sc.trans s13
      have B := B13
      have fZ := (sm_two hd hc s13) _ _ fZ
      have dpk := dp_same ((sm_two hd hc s13)) dpk
      have c1 : capK (2 + 1) 9 83000 = 771270 := rfl
      rw [c1] at by_
      refine ⟨_, rfl, d, c, 3, _, rfl, (by decide), (by decide), B, by omega, fun H14 r3 r30 r31 B14 s14 => ?_⟩
      have lv := lv.st B14 s14
      have sc := sc.trans s14
      have B := B14
      have fZ := (sm_two hd hc s14) _ _ fZ
      have dpk := dp_same ((sm_two hd hc s14)) dpk
      have dy := dp_same ((sm_two hd hc s14)) dy
      refine ⟨rfl, _, rfl, ite2 (fun h1 => ?_) (fun h1 => ?_)⟩
      · refine ⟨_, rfl, _, rfl, _, rfl, d, c, Z, S, _, y, e, 21, 1000099, 771270, 3, 22, zs, rfl, B, by omega, hd, hc, lv, dy, fZ, nz, ls, by decide, by_, by decide, by decide, by decide, by decide, by decide, fun H15 yy ee B15 s15 dz bz => ?_⟩
        have lv := lv.st B15 s15
        have sc := sc.trans s15
        have B := B15
        have fZ := (sm_two hd hc s15) _ _ fZ
        have dpk := dp_same ((sm_two hd hc s15)) dpk
        have c2 : capK (3 + 1) 21 771270 = 9288080 := rfl
        rw [c2] at bz
        refine ⟨_, rfl, yy, ee, _, _, _, _, _, rfl, dp_off dz, bz, by decide, by decide, by decide, by decide, fun H20 s20 => ⟨_, rfl, iteF ?_⟩⟩
        have lv := lv.same s20
        have sc := sc.trans (sm_of (S := [d, c]) s20)
        have B := B.same s20
        have fZ := (sm_of (S := S) s20) _ _ fZ
        have dpk := dp_same ((sm_of (S := S) s20)) dpk
        refine ⟨_, rfl, _, rfl, d, c, Z, S, _, .int 3, .int 3, 9, 3, 1921, 0, 0, zs, rfl, B, by omega, hd, hc, lv, .int 3, fZ, nz, ls, bd_int (by decide), by decide, by decide, by decide, fun H21 y2 e2 B21 s21 dy2 by2 => ?_⟩
        have lv := lv.st B21 s21
        have sc := sc.trans s21
        have B := B21
        have fZ := (sm_two hd hc s21) _ _ fZ
        have dpk := dp_same ((sm_two hd hc s21)) dpk
        refine ⟨y2, e2, _, _, _, _, _, rfl, dp_off dy2, by2, by decide, by decide, by decide, by decide, fun H22 s22 => ⟨_, rfl, iteF ?_⟩⟩
        have lv := lv.same s22
        have sc := sc.trans (sm_of (S := [d, c]) s22)
        have B := B.same s22
        have fZ := (sm_of (S := S) s22) _ _ fZ
        have dpk := dp_same ((sm_of (S := S) s22)) dpk
        exact ⟨_, _, rfl, B.mono (by omega), dpk, fZ⟩
      · generalize y = yy at dy ⊢
        generalize e = ee at dy by_
        have dz := dy
        have bz := by_
        refine ⟨_, rfl, yy, ee, _, _, _, _, _, rfl, dp_off dz, bz, by decide, by decide, by decide, by decide, fun H20 s20 => ⟨_, rfl, iteF ?_⟩⟩
        have lv := lv.same s20
        have sc := sc.trans (sm_of (S := [d, c]) s20)
        have B := B.same s20
        have fZ := (sm_of (S := S) s20) _ _ fZ
        have dpk := dp_same ((sm_of (S := S) s20)) dpk
        refine ⟨_, rfl, _, rfl, d, c, Z, S, _, .int 3, .int 3, 9, 3, 1921, 0, 0, zs, rfl, B, by omega, hd, hc, lv, .int 3, fZ, nz, ls, bd_int (by decide), by decide, by decide, by decide, fun H21 y2 e2 B21 s21 dy2 by2 => ?_⟩
        have lv := lv.st B21 s21
        have sc := sc.trans s21
        have B := B21
        have fZ := (sm_two hd hc s21) _ _ fZ
        have dpk := dp_same ((sm_two hd hc s21)) dpk
        refine ⟨y2, e2, _, _, _, _, _, rfl, dp_off dy2, by2, by decide, by decide, by decide, by decide, fun H22 s22 => ⟨_, rfl, iteF ?_⟩⟩
        have lv := lv.same s22
        have sc := sc.trans (sm_of (S := [d, c]) s22)
        have B := B.same s22
        have fZ := (sm_of (S := S) s22) _ _ fZ
        have dpk := dp_same ((sm_of (S := S) s22)) dpk
        exact ⟨_, _, rfl, B.mono (by omega), dpk, fZ⟩
    · rintro σ H11 ⟨v5, v6, rfl, B, dpk, fZ⟩
      exact q _

end
end Pot

namespace Pot
open PySem PySem.Spec PyProof.Rows L2
set_option maxHeartbeats 4000000 in
theorem all_mk {l : PySem.W.OpenLaw} {w : World} {K : PySem.W.Frag} {h : Heap} {mg : Str → Option Value} {fa : Addr} (X : K.In h) (G : h.Ns mainGlobals mg) (hfa : mg "law" = some (.ref fa))
    {f1 : Addr} {od1 an1 : Option Addr} {sl1 : Array (Option Value)} {oc1 kV1 dc1 pm1 cd1 ct1 : Value}
    {f2 : Addr} {od2 an2 : Option Addr} {sl2 : Array (Option Value)} {oc2 kV2 dc2 pm2 cd2 ct2 : Value}
    {f3 : Addr} {od3 an3 : Option Addr} {sl3 : Array (Option Value)} {oc3 kV3 dc3 pm3 cd3 ct3 : Value}
    {f4 : Addr} {od4 an4 : Option Addr} {sl4 : Array (Option Value)} {oc4 kV4 dc4 pm4 cd4 ct4 : Value}
    {f5 : Addr} {od5 an5 : Option Addr} {sl5 : Array (Option Value)} {oc5 kV5 dc5 pm5 cd5 ct5 : Value}
    {f6 : Addr} {od6 an6 : Option Addr} {sl6 : Array (Option Value)} {oc6 kV6 dc6 pm6 cd6 ct6 : Value}
    {f7 : Addr} {od7 an7 : Option Addr} {sl7 : Array (Option Value)} {oc7 kV7 dc7 pm7 cd7 ct7 : Value}
    {f8 : Addr} {od8 an8 : Option Addr} {sl8 : Array (Option Value)} {oc8 kV8 dc8 pm8 cd8 ct8 : Value}
    {f9 : Addr} {od9 an9 : Option Addr} {sl9 : Array (Option Value)} {oc9 kV9 dc9 pm9 cd9 ct9 : Value}
    {f10 : Addr} {od10 an10 : Option Addr} {sl10 : Array (Option Value)} {oc10 kV10 dc10 pm10 cd10 ct10 : Value}
    {f11 : Addr} {od11 an11 : Option Addr} {sl11 : Array (Option Value)} {oc11 kV11 dc11 pm11 cd11 ct11 : Value}
    {f12 : Addr} {od12 an12 : Option Addr} {sl12 : Array (Option Value)} {oc12 kV12 dc12 pm12 cd12 ct12 : Value}
    {f13 : Addr} {od13 an13 : Option Addr} {sl13 : Array (Option Value)} {oc13 kV13 dc13 pm13 cd13 ct13 : Value}
    {f14 : Addr} {od14 an14 : Option Addr} {sl14 : Array (Option Value)} {oc14 kV14 dc14 pm14 cd14 ct14 : Value}
    {f15 : Addr} {od15 an15 : Option Addr} {sl15 : Array (Option Value)} {oc15 kV15 dc15 pm15 cd15 ct15 : Value}
    {f16 : Addr} {od16 an16 : Option Addr} {sl16 : Array (Option Value)} {oc16 kV16 dc16 pm16 cd16 ct16 : Value}
    {f17 : Addr} {od17 an17 : Option Addr} {sl17 : Array (Option Value)} {oc17 kV17 dc17 pm17 cd17 ct17 : Value}
    {f18 : Addr} {od18 an18 : Option Addr} {sl18 : Array (Option Value)} {oc18 kV18 dc18 pm18 cd18 ct18 : Value}
    {tc1 : Tok}
    (a1 : PySem.W.nsIn K mainGlobals "is_number" = some (some (.ref f1))) (l1 : K.lookup f1 = some ⟨oc1, od1, .func (PySem.W.fnOf "is_number" "is_number" (defArgs s_is_number) (defBody s_is_number) (defScope s_is_number) .none kV1 dc1 pm1 an1 cd1 ct1), sl1⟩) (c1 : PySem.W.codeIn K cd1 "is_number" = true) (k1 : PySem.W.keepIn K (.ref f1) = true)
    (a2 : PySem.W.nsIn K mainGlobals "is_name" = some (some (.ref f2))) (l2 : K.lookup f2 = some ⟨oc2, od2, .func (PySem.W.fnOf "is_name" "is_name" (defArgs s_is_name) (defBody s_is_name) (defScope s_is_name) .none kV2 dc2 pm2 an2 cd2 ct2), sl2⟩) (c2 : PySem.W.codeIn K cd2 "is_name" = true) (k2 : PySem.W.keepIn K (.ref f2) = true)
    (a3 : PySem.W.nsIn K mainGlobals "is_row" = some (some (.ref f3))) (l3 : K.lookup f3 = some ⟨oc3, od3, .func (PySem.W.fnOf "is_row" "is_row" (defArgs s_is_row) (defBody s_is_row) (defScope s_is_row) .none kV3 dc3 pm3 an3 cd3 ct3), sl3⟩) (c3 : PySem.W.codeIn K cd3 "is_row" = true) (k3 : PySem.W.keepIn K (.ref f3) = true)
    (a4 : PySem.W.nsIn K mainGlobals "is_rising" = some (some (.ref f4))) (l4 : K.lookup f4 = some ⟨oc4, od4, .func (PySem.W.fnOf "is_rising" "is_rising" (defArgs s_is_rising) (defBody s_is_rising) (defScope s_is_rising) .none kV4 dc4 pm4 an4 cd4 ct4), sl4⟩) (c4 : PySem.W.codeIn K cd4 "is_rising" = true) (k4 : PySem.W.keepIn K (.ref f4) = true)
    (a5 : PySem.W.nsIn K mainGlobals "is_kinds" = some (some (.ref f5))) (l5 : K.lookup f5 = some ⟨oc5, od5, .func (PySem.W.fnOf "is_kinds" "is_kinds" (defArgs s_is_kinds) (defBody s_is_kinds) (defScope s_is_kinds) .none kV5 dc5 pm5 an5 cd5 ct5), sl5⟩) (c5 : PySem.W.codeIn K cd5 "is_kinds" = true) (k5 : PySem.W.keepIn K (.ref f5) = true)
    (a6 : PySem.W.nsIn K mainGlobals "is_kind" = some (some (.ref f6))) (l6 : K.lookup f6 = some ⟨oc6, od6, .func (PySem.W.fnOf "is_kind" "is_kind" (defArgs s_is_kind) (defBody s_is_kind) (defScope s_is_kind) .none kV6 dc6 pm6 an6 cd6 ct6), sl6⟩) (c6 : PySem.W.codeIn K cd6 "is_kind" = true) (k6 : PySem.W.keepIn K (.ref f6) = true)
    (a7 : PySem.W.nsIn K mainGlobals "_law_begin" = some (some (.ref f7))) (l7 : K.lookup f7 = some ⟨oc7, od7, .func (PySem.W.fnOf "_law_begin" "_law_begin" (defArgs s__law_begin) (defBody s__law_begin) (defScope s__law_begin) .none kV7 dc7 pm7 an7 cd7 ct7), sl7⟩) (c7 : PySem.W.codeIn K cd7 "_law_begin" = true) (k7 : PySem.W.keepIn K (.ref f7) = true)
    (a8 : PySem.W.nsIn K mainGlobals "_law_take" = some (some (.ref f8))) (l8 : K.lookup f8 = some ⟨oc8, od8, .func (PySem.W.fnOf "_law_take" "_law_take" (defArgs s__law_take) (defBody s__law_take) (defScope s__law_take) .none kV8 dc8 pm8 an8 cd8 ct8), sl8⟩) (c8 : PySem.W.codeIn K cd8 "_law_take" = true) (k8 : PySem.W.keepIn K (.ref f8) = true)
    (a9 : PySem.W.nsIn K mainGlobals "_law_some" = some (some (.ref f9))) (l9 : K.lookup f9 = some ⟨oc9, od9, .func (PySem.W.fnOf "_law_some" "_law_some" (defArgs s__law_some) (defBody s__law_some) (defScope s__law_some) .none kV9 dc9 pm9 an9 cd9 ct9), sl9⟩) (c9 : PySem.W.codeIn K cd9 "_law_some" = true) (k9 : PySem.W.keepIn K (.ref f9) = true)
    (a10 : PySem.W.nsIn K mainGlobals "_law_names" = some (some (.ref f10))) (l10 : K.lookup f10 = some ⟨oc10, od10, .func (PySem.W.fnOf "_law_names" "_law_names" (defArgs s__law_names) (defBody s__law_names) (defScope s__law_names) .none kV10 dc10 pm10 an10 cd10 ct10), sl10⟩) (c10 : PySem.W.codeIn K cd10 "_law_names" = true) (k10 : PySem.W.keepIn K (.ref f10) = true)
    (a11 : PySem.W.nsIn K mainGlobals "_law_other" = some (some (.ref f11))) (l11 : K.lookup f11 = some ⟨oc11, od11, .func (PySem.W.fnOf "_law_other" "_law_other" (defArgs s__law_other) (defBody s__law_other) (defScope s__law_other) .none kV11 dc11 pm11 an11 cd11 ct11), sl11⟩) (c11 : PySem.W.codeIn K cd11 "_law_other" = true) (k11 : PySem.W.keepIn K (.ref f11) = true)
    (a12 : PySem.W.nsIn K mainGlobals "_law_bent" = some (some (.ref f12))) (l12 : K.lookup f12 = some ⟨oc12, od12, .func (PySem.W.fnOf "_law_bent" "_law_bent" (defArgs s__law_bent) (defBody s__law_bent) (defScope s__law_bent) .none kV12 dc12 pm12 an12 cd12 ct12), sl12⟩) (c12 : PySem.W.codeIn K cd12 "_law_bent" = true) (k12 : PySem.W.keepIn K (.ref f12) = true)
    (a13 : PySem.W.nsIn K mainGlobals "_law_number" = some (some (.ref f13))) (l13 : K.lookup f13 = some ⟨oc13, od13, .func (PySem.W.fnOf "_law_number" "_law_number" (defArgs s__law_number) (defBody s__law_number) (defScope s__law_number) .none kV13 dc13 pm13 an13 cd13 ct13), sl13⟩) (c13 : PySem.W.codeIn K cd13 "_law_number" = true) (k13 : PySem.W.keepIn K (.ref f13) = true)
    (a14 : PySem.W.nsIn K mainGlobals "_law_name" = some (some (.ref f14))) (l14 : K.lookup f14 = some ⟨oc14, od14, .func (PySem.W.fnOf "_law_name" "_law_name" (defArgs s__law_name) (defBody s__law_name) (defScope s__law_name) .none kV14 dc14 pm14 an14 cd14 ct14), sl14⟩) (c14 : PySem.W.codeIn K cd14 "_law_name" = true) (k14 : PySem.W.keepIn K (.ref f14) = true)
    (a15 : PySem.W.nsIn K mainGlobals "_law_is_kind" = some (some (.ref f15))) (l15 : K.lookup f15 = some ⟨oc15, od15, .func (PySem.W.fnOf "_law_is_kind" "_law_is_kind" (defArgs s__law_is_kind) (defBody s__law_is_kind) (defScope s__law_is_kind) .none kV15 dc15 pm15 an15 cd15 ct15), sl15⟩) (c15 : PySem.W.codeIn K cd15 "_law_is_kind" = true) (k15 : PySem.W.keepIn K (.ref f15) = true)
    (a16 : PySem.W.nsIn K mainGlobals "_law_due" = some (some (.ref f16))) (l16 : K.lookup f16 = some ⟨oc16, od16, .func (PySem.W.fnOf "_law_due" "_law_due" (defArgs s__law_due) (defBody s__law_due) (defScope s__law_due) .none kV16 dc16 pm16 an16 cd16 ct16), sl16⟩) (c16 : PySem.W.codeIn K cd16 "_law_due" = true) (k16 : PySem.W.keepIn K (.ref f16) = true)
    (a17 : PySem.W.nsIn K mainGlobals "_law_told_right" = some (some (.ref f17))) (l17 : K.lookup f17 = some ⟨oc17, od17, .func (PySem.W.fnOf "_law_told_right" "_law_told_right" (defArgs s__law_told_right) (defBody s__law_told_right) (defScope s__law_told_right) .none kV17 dc17 pm17 an17 cd17 ct17), sl17⟩) (c17 : PySem.W.codeIn K cd17 "_law_told_right" = true) (k17 : PySem.W.keepIn K (.ref f17) = true)
    (a18 : PySem.W.nsIn K mainGlobals "law" = some (some (.ref f18))) (l18 : K.lookup f18 = some ⟨oc18, od18, .func (PySem.W.fnOf "law" "law" (defArgs s_law) (defBody s_law) (defScope s_law) .none kV18 dc18 pm18 an18 cd18 ct18), sl18⟩) (c18 : PySem.W.codeIn K cd18 "law" = true) (k18 : PySem.W.keepIn K (.ref f18) = true)
    (z1 : PySem.W.nsIn K mainGlobals "len" = some none)
    (z2 : PySem.W.nsIn K mainGlobals "divmod" = some none)
    (z3 : PySem.W.nsIn K mainGlobals "range" = some none)
    (z4 : PySem.W.nsIn K mainGlobals "sum" = some none)
    (z5 : PySem.W.nsIn K mainGlobals "all" = some none)
    (z6 : PySem.W.nsIn K mainGlobals "any" = some none)
    (z7 : PySem.W.nsIn K mainGlobals "isinstance" = some none)
    (z8 : PySem.W.nsIn K mainGlobals "str" = some none)
    (z9 : PySem.W.nsIn K mainGlobals "int" = some none)
    (z10 : PySem.W.nsIn K mainGlobals "list" = some none)
    (z11 : PySem.W.nsIn K mainGlobals "tuple" = some none)
    (z12 : PySem.W.nsIn K mainGlobals "bool" = some none)
    (z13 : PySem.W.nsIn K mainGlobals "zip" = some none)
    (z14 : PySem.W.nsIn K mainGlobals "set" = some none)
    (z15 : PySem.W.nsIn K mainGlobals "sorted" = some none)
    (z16 : PySem.W.nsIn K mainGlobals "enumerate" = some none)
    (z17 : PySem.W.nsIn K mainGlobals "repr" = some none)
    (z18 : PySem.W.nsIn K mainGlobals "min" = some none)
    (z19 : PySem.W.nsIn K mainGlobals "max" = some none)
    (z20 : PySem.W.nsIn K mainGlobals "abs" = some none)
    (y1 : PySem.W.nsIn K mainGlobals "LETTERS" = some (some (.str "abcdefghijklmnopqrstuvwxyz" tc1)))
    : ∃ fd : FuncData, (∀ (s : Shared) (v : Value), BindsTo s fd ⟨[v], []⟩ [("_law_script", v)]) ∧ ∀ base : Heap, K.In base → base.Ns mainGlobals mg → FnG l.prog w K mg base 11 fa fd ["_law_script"] (spLaw K) := by
  have e := hfa.symm.trans (PySem.W.mg_of X G a18)
  cases e
  have T : Txt mg := ⟨PySem.W.mg_none_of X G z1, PySem.W.mg_none_of X G z2, PySem.W.mg_none_of X G z3, PySem.W.mg_none_of X G z4, PySem.W.mg_none_of X G z5, PySem.W.mg_none_of X G z6, PySem.W.mg_none_of X G z7, PySem.W.mg_none_of X G z8, PySem.W.mg_none_of X G z9, PySem.W.mg_none_of X G z10, PySem.W.mg_none_of X G z11, PySem.W.mg_none_of X G z12, PySem.W.mg_none_of X G z13, PySem.W.mg_none_of X G z14, PySem.W.mg_none_of X G z15, PySem.W.mg_none_of X G z16, PySem.W.mg_none_of X G z17, PySem.W.mg_none_of X G z18, PySem.W.mg_none_of X G z19, PySem.W.mg_none_of X G z20⟩
  have F1 := fun_mk (st := s_is_number) l1 c1 k1
  have b1 := F1.binds (ps := ["thing", "low", "high"]) fun _ _ _ _ _ _ us hl => match us, hl with | [_, _, _], _ => rfl
  have g1 := PySem.W.mg_of X G a1
  have F2 := fun_mk (st := s_is_name) l2 c2 k2
  have b2 := F2.binds (ps := ["thing"]) fun _ _ _ _ _ _ us hl => match us, hl with | [_], _ => rfl
  have g2 := PySem.W.mg_of X G a2
  have F3 := fun_mk (st := s_is_row) l3 c3 k3
  have b3 := F3.binds (ps := ["thing", "size"]) fun _ _ _ _ _ _ us hl => match us, hl with | [_, _], _ => rfl
  have g3 := PySem.W.mg_of X G a3
  have F4 := fun_mk (st := s_is_rising) l4 c4 k4
  have b4 := F4.binds (ps := ["keys"]) fun _ _ _ _ _ _ us hl => match us, hl with | [_], _ => rfl
  have g4 := PySem.W.mg_of X G a4
  have F5 := fun_mk (st := s_is_kinds) l5 c5 k5
  have b5 := F5.binds (ps := ["thing"]) fun _ _ _ _ _ _ us hl => match us, hl with | [_], _ => rfl
  have g5 := PySem.W.mg_of X G a5
  have F6 := fun_mk (st := s_is_kind) l6 c6 k6
  have b6 := F6.binds (ps := ["thing"]) fun _ _ _ _ _ _ us hl => match us, hl with | [_], _ => rfl
  have g6 := PySem.W.mg_of X G a6
  have F7 := fun_mk (st := s__law_begin) l7 c7 k7
  have b7 := F7.binds (ps := ["_law_script"]) fun _ _ _ _ _ _ us hl => match us, hl with | [_], _ => rfl
  have g7 := PySem.W.mg_of X G a7
  have F8 := fun_mk (st := s__law_take) l8 c8 k8
  have b8 := F8.binds (ps := ["_law_state", "_law_many"]) fun _ _ _ _ _ _ us hl => match us, hl with | [_, _], _ => rfl
  have g8 := PySem.W.mg_of X G a8
  have F9 := fun_mk (st := s__law_some) l9 c9 k9
  have b9 := F9.binds (ps := ["_law_state", "_law_things"]) fun _ _ _ _ _ _ us hl => match us, hl with | [_, _], _ => rfl
  have g9 := PySem.W.mg_of X G a9
  have F10 := fun_mk (st := s__law_names) l10 c10 k10
  have b10 := F10.binds (ps := ["_law_state", "_law_many"]) fun _ _ _ _ _ _ us hl => match us, hl with | [_, _], _ => rfl
  have g10 := PySem.W.mg_of X G a10
  have F11 := fun_mk (st := s__law_other) l11 c11 k11
  have b11 := F11.binds (ps := ["_law_state", "_law_thing", "_law_names_here"]) fun _ _ _ _ _ _ us hl => match us, hl with | [_, _, _], _ => rfl
  have g11 := PySem.W.mg_of X G a11
  have F12 := fun_mk (st := s__law_bent) l12 c12 k12
  have b12 := F12.binds (ps := ["_law_state", "_law_thing", "_law_names_here"]) fun _ _ _ _ _ _ us hl => match us, hl with | [_, _, _], _ => rfl
  have g12 := PySem.W.mg_of X G a12
  have F13 := fun_mk (st := s__law_number) l13 c13 k13
  have b13 := F13.binds (ps := ["_law_thing", "_law_least", "_law_most"]) fun _ _ _ _ _ _ us hl => match us, hl with | [_, _, _], _ => rfl
  have g13 := PySem.W.mg_of X G a13
  have F14 := fun_mk (st := s__law_name) l14 c14 k14
  have b14 := F14.binds (ps := ["_law_thing"]) fun _ _ _ _ _ _ us hl => match us, hl with | [_], _ => rfl
  have g14 := PySem.W.mg_of X G a14
  have F15 := fun_mk (st := s__law_is_kind) l15 c15 k15
  have b15 := F15.binds (ps := ["_law_row"]) fun _ _ _ _ _ _ us hl => match us, hl with | [_], _ => rfl
  have g15 := PySem.W.mg_of X G a15
  have F16 := fun_mk (st := s__law_due) l16 c16 k16
  have b16 := F16.binds (ps := ["_law_thing"]) fun _ _ _ _ _ _ us hl => match us, hl with | [_], _ => rfl
  have g16 := PySem.W.mg_of X G a16
  have F17 := fun_mk (st := s__law_told_right) l17 c17 k17
  have b17 := F17.binds (ps := ["_law_thing"]) fun _ _ _ _ _ _ us hl => match us, hl with | [_], _ => rfl
  have g17 := PySem.W.mg_of X G a17
  have F18 := fun_mk (st := s_law) l18 c18 k18
  refine ⟨PySem.W.fnOf "law" "law" (defArgs s_law) (defBody s_law) (defScope s_law) .none kV18 dc18 pm18 an18 cd18 ct18, fun s v => .of_eq rfl, fun base _ _ => ?_⟩
  have L_Let : Let mg := ⟨_, PySem.W.mg_of X G y1⟩
  have c__law_begin : Cl l.prog w K mg base 1 "_law_begin" ((spBegin K)) := ⟨_, _, _, ok_begin F7 T, g7, F7.kp, b7⟩
  have c__law_take : Cl l.prog w K mg base 1 "_law_take" (spTake) := ⟨_, _, _, ok_take F8 T, g8, F8.kp, b8⟩
  have c__law_names : Cl l.prog w K mg base 2 "_law_names" (spNames) := ⟨_, _, _, ok_names F10 T c__law_take, g10, F10.kp, b10⟩
  have c__law_name : Cl l.prog w K mg base 1 "_law_name" ((spName K)) := ⟨_, _, _, ok_lname F14 T, g14, F14.kp, b14⟩
  have c__law_number : Cl l.prog w K mg base 1 "_law_number" ((spNum K)) := ⟨_, _, _, ok_lnum F13 T, g13, F13.kp, b13⟩
  have c__law_is_kind : Cl l.prog w K mg base 2 "_law_is_kind" ((spKind K)) := ⟨_, _, _, ok_lkind F15 T c__law_name c__law_number, g15, F15.kp, b15⟩
  have c__law_due : Cl l.prog w K mg base 3 "_law_due" ((spKinds K)) := ⟨_, _, _, ok_due F16 T c__law_is_kind, g16, F16.kp, b16⟩
  have c_is_row : Cl l.prog w K mg base 1 "is_row" ((spRow K)) := ⟨_, _, _, ok_row F3 T, g3, F3.kp, b3⟩
  have c_is_name : Cl l.prog w K mg base 1 "is_name" ((spName K)) := ⟨_, _, _, ok_name F2 T L_Let, g2, F2.kp, b2⟩
  have c_is_number : Cl l.prog w K mg base 1 "is_number" ((spNum K)) := ⟨_, _, _, ok_num F1 T, g1, F1.kp, b1⟩
  have c_is_kind : Cl l.prog w K mg base 2 "is_kind" ((spKind K)) := ⟨_, _, _, ok_kind F6 T c_is_row c_is_name c_is_number, g6, F6.kp, b6⟩
  have c_is_rising : Cl l.prog w K mg base 1 "is_rising" ((spRis K)) := ⟨_, _, _, ok_ris F4 T, g4, F4.kp, b4⟩
  have c_is_kinds : Cl l.prog w K mg base 3 "is_kinds" ((spKinds K)) := ⟨_, _, _, ok_kinds F5 T c_is_kind c_is_rising, g5, F5.kp, b5⟩
  have c__law_told_right : ClG l.prog w K mg base 4 "_law_told_right" [] ((spTold K)) := ⟨_, _, _, [], ok_told F17 T c_is_kinds c__law_due, g17, F17.kp, b17, .nil⟩
  have c__law_some : Cl l.prog w K mg base 2 "_law_some" ((spSome K)) := ⟨_, _, _, ok_some F9 T c__law_take, g9, F9.kp, b9⟩
  have c__law_other : Cl l.prog w K mg base 3 "_law_other" ((spOther K)) := ⟨_, _, _, ok_other F11 T c__law_some, g11, F11.kp, b11⟩
  have c__law_bent : Cl l.prog w K mg base 10 "_law_bent" (spBent K 6) := ⟨_, _, _, ok_bent F12 T b12 g12 c__law_take c__law_other 6, g12, F12.kp, b12⟩
  exact ok_law F18 T c__law_begin c__law_take c__law_names c__law_due c__law_told_right c__law_other c__law_bent
end Pot
open PySem PySem.W PyProof.Rows
set_option maxRecDepth 100000 in
set_option maxHeartbeats 0 in
theorem PySem.Challenge.cw_potround_k02_what_kinds_are_holds : PySem.Challenge.rw_potround_k02_what_kinds_are.Holds := by
  w_on; o_law; k_head; (case hw => w_witness2)
  k_fill
  refine Pot.walkG (l := PySem.Challenge.rw_potround_k02_what_kinds_are) (n := 63) (k := 11) (x := "_law_script") (sp := fun w => Pot.spLaw _) rfl (by decide) rfl ⟨rfl, by decide, by decide⟩ (fun w h Y => PySem.W.kIn_of Y) ?F (fun _ _ a ns hl _ hS => ⟨a, ns, rfl, hS, hl, fun _ => rfl⟩)
  case F =>
    intro w mg fa h KX G hmg
    refine' Pot.all_mk KX G hmg ?a1 ?l1 ?c1 ?k1 ?a2 ?l2 ?c2 ?k2 ?a3 ?l3 ?c3 ?k3 ?a4 ?l4 ?c4 ?k4 ?a5 ?l5 ?c5 ?k5 ?a6 ?l6 ?c6 ?k6 ?a7 ?l7 ?c7 ?k7 ?a8 ?l8 ?c8 ?k8 ?a9 ?l9 ?c9 ?k9 ?a10 ?l10 ?c10 ?k10 ?a11 ?l11 ?c11 ?k11 ?a12 ?l12 ?c12 ?k12 ?a13 ?l13 ?c13 ?k13 ?a14 ?l14 ?c14 ?k14 ?a15 ?l15 ?c15 ?k15 ?a16 ?l16 ?c16 ?k16 ?a17 ?l17 ?c17 ?k17 ?a18 ?l18 ?c18 ?k18 ?z1 ?z2 ?z3 ?z4 ?z5 ?z6 ?z7 ?z8 ?z9 ?z10 ?z11 ?z12 ?z13 ?z14 ?z15 ?z16 ?z17 ?z18 ?z19 ?z20 ?y1
    (case a1 => k_is)
    (case l1 => k_is)
    (case c1 => k_is)
    (case k1 => k_is)
    (case a2 => k_is)
    (case l2 => k_is)
    (case c2 => k_is)
    (case k2 => k_is)
    (case a3 => k_is)
    (case l3 => k_is)
    (case c3 => k_is)
    (case k3 => k_is)
    (case a4 => k_is)
    (case l4 => k_is)
    (case c4 => k_is)
    (case k4 => k_is)
    (case a5 => k_is)
    (case l5 => k_is)
    (case c5 => k_is)
    (case k5 => k_is)
    (case a6 => k_is)
    (case l6 => k_is)
    (case c6 => k_is)
    (case k6 => k_is)
    (case a7 => k_is)
    (case l7 => k_is)
    (case c7 => k_is)
    (case k7 => k_is)
    (case a8 => k_is)
    (case l8 => k_is)
    (case c8 => k_is)
    (case k8 => k_is)
    (case a9 => k_is)
    (case l9 => k_is)
    (case c9 => k_is)
    (case k9 => k_is)
    (case a10 => k_is)
    (case l10 => k_is)
    (case c10 => k_is)
    (case k10 => k_is)
    (case a11 => k_is)
    (case l11 => k_is)
    (case c11 => k_is)
    (case k11 => k_is)
    (case a12 => k_is)
    (case l12 => k_is)
    (case c12 => k_is)
    (case k12 => k_is)
    (case a13 => k_is)
    (case l13 => k_is)
    (case c13 => k_is)
    (case k13 => k_is)
    (case a14 => k_is)
    (case l14 => k_is)
    (case c14 => k_is)
    (case k14 => k_is)
    (case a15 => k_is)
    (case l15 => k_is)
    (case c15 => k_is)
    (case k15 => k_is)
    (case a16 => k_is)
    (case l16 => k_is)
    (case c16 => k_is)
    (case k16 => k_is)
    (case a17 => k_is)
    (case l17 => k_is)
    (case c17 => k_is)
    (case k17 => k_is)
    (case a18 => k_is)
    (case l18 => k_is)
    (case c18 => k_is)
    (case k18 => k_is)
    (case z1 => k_is)
    (case z2 => k_is)
    (case z3 => k_is)
    (case z4 => k_is)
    (case z5 => k_is)
    (case z6 => k_is)
    (case z7 => k_is)
    (case z8 => k_is)
    (case z9 => k_is)
    (case z10 => k_is)
    (case z11 => k_is)
    (case z12 => k_is)
    (case z13 => k_is)
    (case z14 => k_is)
    (case z15 => k_is)
    (case z16 => k_is)
    (case z17 => k_is)
    (case z18 => k_is)
    (case z19 => k_is)
    (case z20 => k_is)
    (case y1 => k_is)
