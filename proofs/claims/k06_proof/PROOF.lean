import PyProof.Rows.All
import Wide.All
import OpenK.AllK
import Wide.FinOn
import HandS.AnyAll
import HandS.ForMost
import HandS.IsInst
import HandS.Conv
import HandS.Exc
import HandS.TryOnly
import HandS.WordsExc
import HandS.ExcInit
import HandS.Wide
import HandS.TupAny
import HandS.TupMul
import HandS.Rev
import HandS.Style
import HandS.EndTab
import HandS.Iter
import HandS.Walk
import KE.GoesEnum
import PyProof.ListNew
import HandS.More
import HandS.TupLen
import KE.KDictKeyed
import PySem.Challenge.RW_stillopen_k06_whole_all_rows_of_a_few_si
set_option Elab.async false
set_option linter.all false
set_option maxRecDepth 100000
set_option maxHeartbeats 4000000
namespace SoGx
open PySem PySem.Spec PyProof.Rows L2 GxR
/-- an element that may ask the module's names too -/
def EltG (prog : Program) (w : World) (mg : Str → Option Value) (scope : Scope) (x : Str) (elt : Expr) (pb : Nat → Bool) : Prop :=
  ∀ (cenv : Env) (A' : Around) (E' : Value → Shared → Prop) (c : Nat) (t : Tok) (z : Shared) (m : Str → Option Value),
    cenv.scope = scope → cenv.globals = mainGlobals → z.heap.Ns mainGlobals mg → z.heap.Ns cenv.locals m → m x = some (.str ⟨#[c]⟩ t) →
      wpAny (model prog w) A' (eval elt cenv) (fun y z' => y = .bool (pb c) ∧ Keeps z z') E' z
/-- x in NAME, NAME a text of the module -/
theorem elt_in {prog : Program} {w : World} {mg : Str → Option Value} {scope : Scope} {x g : Str} {l : Str} {tl : Tok} {p1 p2 p3 : Pos}
    (hk : scope.kind = .function) (hl : scope.names.lookup x = some .local) (hgl : scope.names.lookup g = some .globalImplicit) (hm : mg g = some (.str l tl))
    (hd : (x == ("__debug__" : Str)) = false := by decide) (hd2 : (g == ("__debug__" : Str)) = false := by decide) :
    EltG prog w mg scope x (.Compare (.Name x p1) [.In] [.Name g p2] p3) (fun c => decide (c ∈ l.cps.toList)) := by
  intro cenv A' E' c t z m hs hgs hG hn hx
  refine wpAny_Compare1 ?_
  refine wpAny_Name (wpAny_loadName_local (by rw [hs]; exact hk) (show cenv.scope.names.lookup x = some .local by rw [hs]; exact hl) hn hx ?_) hd
  refine Calls.Name_function_global (by rw [hs]; exact hk) (show cenv.scope.names.lookup g = some .globalImplicit by rw [hs]; exact hgl)
    (Calls.loadGlobal_global (by rw [hgs]; exact hG) hm ?_) hd2
  refine PyProof.Rows.in_str ⟨?_, keeps_refl _⟩
  rw [PySem.StrLaws.found_one l c]
section
variable {X : Cx} {pins : List (Addr × Obj)} {σ : L2.St} {H : Hp} {s : Shared}
theorem gen_glob {c P : Addr} {elt iter : Expr} {x : Str} {px gpos : Pos} {scope : Scope} {pb : Nat → Bool} {te : TE} {k : Nat}
    {W' : Value → Shared → Prop} {R : Str → Hp → Prop} (hr : Room k X.A) (TB : TabB X.base X.mg c P) (hcode : X.env.code = .ref c)
    (S : GenS X.env scope x) (hi : PE X iter te) (hel : EltG X.prog X.w X.mg scope x elt pb) (hs : ∀ v, genFold iter X.env v = pure v)
    (I : Inv X pins σ H s) (h : te σ H fun v H1 => ∃ a : Str, v = .str a ∧ TabG H1 P ∧ R a H1)
    (hQ : ∀ a H1 g z, R a H1 → Ready X pins σ H1 P a pb g z → W' (.ref g) z) :
    wpAny (model X.prog X.w) X.A (eval (.GeneratorExp elt [⟨.Name x px, iter, [], 0⟩] scope gpos) X.env) W' X.xe s := by
  have deep : X.A.depth < recursionLimit := by
    have := hr.dp
    omega
  refine wpAny_GeneratorExp_walksQ hr.hd S.co (closure_ok S.free) S.cell S.dot S.loc S.kind deep ?_ hs
  refine thn (hi.run pins s σ H _ I h) fun u z hz => ?_
  obtain ⟨v, J, I1, rv, a, rfl, ⟨ps, hP, ht⟩, hR⟩ := hz
  obtain ⟨t, rfl⟩ := _root_.id rv
  refine wpAny_pyIter_str fun o St W hst => ?_
  have atP : z.heap.get? P = some { cls := .none, data := .fields ps } := I1.hok P _ hP
  have ltP : P < z.heap.objs.size := Heap.lt_size atP
  have atP' : (z.heap.push o).get? P = some { cls := .none, data := .fields ps } := Heap.get?_push_of_some _ atP
  have cd : PySem.W.CodeHd (z.heap.push o) c P := TB.code.keeps fun b u e => Heap.get?_push_of_some _ (I1.bk b u e)
  have noL : (z.heap.push o).NoLimit := I1.nolimit.push o
  have szo : (z.heap.push o).objs.size = z.heap.objs.size + 1 := Heap.size_push ..
  refine ⟨noL, ?_⟩
  -- what comes behind the code object, however it was found
  have cont : ∀ (code : Value) (h3 : Heap) (tk : Nat) (qs : Array Value), Heap.ExtBut P (z.heap.push o) h3 → (z.heap.push o).objs.size ≤ h3.objs.size →
      h3.get? P = some { cls := .none, data := .fields qs } → (∃ more, qs = ps ++ more) → TriplesOk qs.toList →
      wpAny (model X.prog X.w) X.A (builtinsFor X.env.globals X.env.builtins) (fun bi r =>
        ∃ Ia fp wr n₀ Pf St₀ pz F, Value.ref z.heap.objs.size = .ref Ia ∧ (∀ A' : Around, A'.handled = none → Walks X.prog X.w A' Ia fp wr n₀ Pf St₀) ∧
          St₀ 0 r.heap ∧ (∀ b ∈ fp, b < r.heap.objs.size) ∧ r.heap.NoLimit ∧ cStatics ∉ wr ∧
          (∀ href : Heap, (∀ b o, r.heap.get? b = some o → href.get? b = some o) →
            QuietGen X.prog X.w (genEnv scope (cloFrom X.env.cells scope.names []) r.heap.objs.size code bi X.env) x [] elt (List.range r.heap.objs.size) wr Pf pz F href) ∧
          (∀ a h₅ tk gs, gs.bare = true → r.heap.objs.size < a → h₅.objs.size = a + 1 → (∀ b o, r.heap.get? b = some o → h₅.get? b = some o) →
            WalksS X.prog X.w X.A.in4 a (a :: r.heap.objs.size :: List.range r.heap.objs.size) (r.heap.objs.size :: wr) (GenOnlyQ r.gens.size) (passing pz n₀ 0).length
              (fun j y => ∃ i, (passing pz n₀ 0)[j]? = some i ∧ F i y) (GenAt X.prog X.w X.A.in4 a r.gens.size r.heap.objs.size (List.range r.heap.objs.size) wr pz n₀ F) →
            GenAt X.prog X.w X.A.in4 a r.gens.size r.heap.objs.size (List.range r.heap.objs.size) wr pz n₀ F 0 { r with gens := r.gens.push gs, toks := tk, heap := h₅ } →
            W' (.ref a) { r with gens := r.gens.push gs, toks := tk, heap := h₅ })) X.xe { z with heap := h3, toks := tk } := by
    intro code h3 tk qs hx hsz hP3 hmore ht3
    obtain ⟨bm, ob, e1, e2, e3, e4, e5, e6, e7, e8⟩ := TB.bm
    have cP : cStatics ≠ P := fun e => by
      obtain ⟨_, hns, _⟩ := I1.nolimit
      obtain ⟨o', es, ep, ho, hd, _⟩ := hns
      rw [e, atP] at ho
      cases ho
      cases hd
    have cLt : cStatics < z.heap.objs.size := let ⟨_, hns, _⟩ := I1.nolimit; hns.lt
    have stay : ∀ b u, b ≠ P → z.heap.get? b = some u → h3.get? b = some u := fun b u hb e => hx b u hb (Heap.get?_push_of_some _ e)
    have gl3 : h3.Ns mainGlobals X.mg := ((I1.mod.glob.keeps I1.bk).push o).extBut hx TB.gP
    refine wpAny_builtinsFor (m := X.mg) (by rw [I1.ok.glob]; exact gl3) e1 e2 (stay _ _ e4 (I1.bk _ _ e5)) e6 e7 e8 ?_
    refine ⟨z.heap.objs.size, [z.heap.objs.size], [z.heap.objs.size], a.cps.size, SignAt a, St, (fun _ => true),
      (fun i y => ∃ cc, a.cps[i]? = some cc ∧ y = .bool (pb cc)), rfl, W, ?_, ?_, noL.extBut hx cP, ?_, ?_, ?_⟩
    · refine (W X.A hr.hd).frame _ _ _ hst fun b hb u e => hx b u (fun q => ?_) e
      rcases List.mem_cons.mp hb with q2 | q2
      · exact Nat.ne_of_lt ltP (q.symm.trans q2)
      · cases q2
    · intro b hb
      rcases List.mem_cons.mp hb with q | q
      · rw [q]
        show z.heap.objs.size < h3.objs.size
        omega
      · cases q
    · intro q
      rcases List.mem_cons.mp q with q | q
      · exact Nat.ne_of_lt cLt q
      · cases q
    · intro href hh
      refine ⟨fun A' E' i v s₂ m₂ hA hPv hn hm hk => ?_, fun A' E' i v s₂ m₂ hA hPv hp hn hm hk => ?_⟩
      · simp only [List.forIn_nil]
        exact wpAny_pure ⟨rfl, keeps_refl _⟩
      · obtain ⟨cc, u, hcc, rfl⟩ := hPv
        have gl : s₂.heap.Ns mainGlobals X.mg := by
          obtain ⟨og, es, ep, ho, r⟩ := gl3
          have lt3 : mainGlobals < h3.objs.size := Heap.lt_size ho
          refine ⟨og, es, ep, hk mainGlobals (List.mem_range.mpr lt3) (fun q => ?_) og (hh _ _ ho), r⟩
          rcases List.mem_cons.mp q with q | q
          · obtain ⟨o9, _, _, ho9, _⟩ := I1.mod.glob.keeps I1.bk
            have := Heap.lt_size ho9
            rw [q] at this
            exact Nat.lt_irrefl _ this
          · cases q
        exact wpAny_mono (hel _ A' E' cc u s₂ m₂ rfl I1.ok.glob gl hn hm) (fun y s3 r => ⟨⟨cc, hcc, r.1⟩, r.2⟩) fun _ _ e => e
    · intro g h5 tk5 gs hgb hag hsz5 hk5 W5 hat
      simp only [GxR.passing_true, List.length_range] at W5
      refine hQ a J g _ hR ⟨_, _, _, _, _, W5.in4_1, hat, ?_, fun r hm => ?_⟩
      · intro j y sj Qj Ej hy hQj
        obtain ⟨i, hij, cc, hcc, rfl⟩ := hy
        obtain ⟨hj, ej⟩ := List.getElem?_eq_some_iff.mp hij
        rw [List.getElem_range] at ej
        subst ej
        have e9 : a.cps.toList[j]? = some cc := by rw [Array.getElem?_toList]; exact hcc
        have hQ2 : Qj (trF pb a.cps.toList j) sj := hQj
        rw [trF_some e9] at hQ2
        exact wpAny_truthy_bool hQ2
      · obtain ⟨more, em⟩ := hmore
        have nwr : ∀ b u, z.heap.get? b = some u → b ∉ h3.objs.size :: [z.heap.objs.size] := fun b u e hb => by
          have hl := Heap.lt_size e
          have hsz' : z.heap.objs.size + 1 ≤ h3.objs.size := by rw [← szo]; exact hsz
          rcases List.mem_cons.mp hb with q | q
          · have h9 : b = h3.objs.size := q
            have hl' : b < z.heap.objs.size := hl
            rw [h9] at hl'
            exact Nat.lt_irrefl _ (Nat.lt_of_lt_of_le hl' (Nat.le_trans (Nat.le_succ _) hsz'))
          · rcases List.mem_cons.mp q with q | q
            · rw [q] at hl
              exact Nat.lt_irrefl _ hl
            · cases q
        have G1 := inv_tab (more := more) (h' := r.heap) (g' := r.gens) (d' := r.drawn) (t' := r.toks) I1 hP
          (fun b u hb e => hm.heap b u (nwr b u e) (hk5 b u (stay b u hb e))) (by rw [← em]; exact hm.heap P _ (nwr P _ atP) (hk5 P _ hP3)) (AllBare.movedS (I1.bare.push hgb) hm)
        rw [sh_eta z r hm.os] at G1
        exact ⟨upd J P (.tbl (ps ++ more)), ⟨⟨ps ++ more, upd_same, by rw [← em]; exact ht3⟩, fun b hb => upd_ne hb⟩, G1⟩
  cases hf : codeAmong gpos ps.toList with
  | none =>
    refine wpAny_genexprCodeX hcode (cd.code atP' ht) (cd.tab atP') hf fun c' h' tk hx hge hlt hco' _ htab' _ => ?_
    obtain ⟨o1, vs, f1, tf, fl, tg, inF, tx, tt, op, _, _, _, _, _, _, _, _, _, htr, _⟩ := hco'
    exact cont _ h' tk _ hx (Nat.le_trans hge (Nat.le_of_lt hlt)) htab'.2 ⟨_, rfl⟩ htr
  | some cv =>
    refine wpAny_genexprCode_hit hcode (cd.code atP' ht) hf ?_
    exact cont cv (z.heap.push o) z.toks ps (Heap.ExtBut.refl _ _) (Nat.le_refl _) atP' ⟨#[], by simp⟩ ht
/-- all(elt for x in e), e a text, the element asking the module's names -/
theorem pe_allG {c P : Addr} {elt iter : Expr} {x : Str} {px p pos gpos : Pos} {scope : Scope} {pb : Nat → Bool} {te : TE} {k : Nat}
    (hr : Room k X.A) (hg : Gl X "all") (hm : X.mg "all" = none) (hb : bootBuiltins "all" = some (.builtin "all")) (TB : TabB X.base X.mg c P)
    (hcode : X.env.code = .ref c) (S : GenS X.env scope x) (hi : PE X iter te) (hel : EltG X.prog X.w X.mg scope x elt pb) (hs : ∀ v, genFold iter X.env v = pure v)
    (he : starEach [.GeneratorExp elt [⟨.Name x px, iter, [], 0⟩] scope gpos] X.env =
      (false, eval (.GeneratorExp elt [⟨.Name x px, iter, [], 0⟩] scope gpos) X.env) :: starEach [] X.env := by rfl) :
    PE X (.Call (.Name "all" p) [.GeneratorExp elt [⟨.Name x px, iter, [], 0⟩] scope gpos] [] pos) (tAllS P pb te) := by
  refine ⟨fun pins s σ H Q I h => ?_⟩
  refine wpAny_Call_Name_kw (ld_blt I hg hm hb ?_)
  refine PyProof.Rows.callWith_builtin1 ?_ he (by rfl)
  rw [he]
  show wpAny _ _ (spliced ((false, eval (.GeneratorExp elt [⟨.Name x px, iter, [], 0⟩] scope gpos) X.env) :: backTo pos (starEach [] X.env))) _ _ s
  refine Calls.spliced_cons (gen_glob (R := fun a H1 => ∀ H2, Tabbed P H1 H2 → Q (.bl (a.cps.toList.all pb)) H2) hr TB hcode S hi hel hs I h fun a H1 g z hR hG => ?_)
  obtain ⟨fp, wr, G, F, St, W, hst, htr, hI⟩ := hG
  refine Calls.spliced_nil ?_
  refine call_all_walkS (W.self 0 _ _ _ hst ⟨g, fp, wr, G, _, F, St, _, rfl, W, hst, htr, fun r hmv => ?_⟩)
  obtain ⟨H2, hT, J⟩ := hI r hmv
  refine ⟨.bl _, H2, J, rfl, ?_⟩
  rw [all_signs a pb]
  exact hR H2 hT
end
end SoGx

set_option maxRecDepth 100000
set_option maxHeartbeats 4000000
namespace So
open PySem PySem.Spec PyProof.Rows L2
abbrev TabG := @GxR.TabG
/-- all but the table at P stands as before; the table stands still a table -/
def Sm (P : Addr) (H H' : Hp) : Prop := (∀ b o, b ≠ P → H b = some o → H' b = some o) ∧ GxR.TabG H' P
theorem tab_tup {H : Hp} {P b : Addr} {u : HO} (t : GxR.TabG H P) (h : H b = some u) (n : ∀ ps, u ≠ .tbl ps) : b ≠ P := fun z => by
  obtain ⟨ps, e, _⟩ := t
  rw [z, e] at h
  exact n ps (Option.some.inj h).symm
theorem Sm.refl {P : Addr} {H : Hp} (t : GxR.TabG H P) : Sm P H H := ⟨fun _ _ _ h => h, t⟩
theorem Sm.trans {P : Addr} {H H1 H2 : Hp} (a : Sm P H H1) (b : Sm P H1 H2) : Sm P H H2 := ⟨fun c o n h => b.1 c o n (a.1 c o n h), b.2⟩
theorem Sm.new {P p : Addr} {H : Hp} {o : HO} (t : GxR.TabG H P) (h : H p = none) : Sm P H (upd H p o) := by
  obtain ⟨ps, e, r⟩ := t
  refine ⟨fun b u _ e => ?_, ⟨ps, ?_, r⟩⟩
  · rw [upd_ne (ne_of_none e h)]
    exact e
  · rw [upd_ne (ne_of_none e h)]
    exact e
/-- what H does not know may change -/
theorem Sm.mut {P p : Addr} {H H' : Hp} {o : HO} (a : Sm P H H') (h : H p = none) (n : p ≠ P) : Sm P H (upd H' p o) := by
  obtain ⟨k, ps, e, r⟩ := a
  refine ⟨fun b u nb e => ?_, ⟨ps, ?_, r⟩⟩
  · rw [upd_ne (ne_of_none e h)]
    exact k b u nb e
  · rw [upd_ne (Ne.symm n)]
    exact e
theorem Sm.of_tabbed {P : Addr} {H H' : Hp} (h : GxR.Tabbed P H H') : Sm P H H' := ⟨fun b o n e => by rw [h.2 b n]; exact e, h.1⟩
section
variable {K : PySem.W.Frag} {P a : Addr} {H H' : Hp} {xs : List V}
theorem Sm.tup (t : GxR.TabG H P) (s : Sm P H H') (h : SqT K H a xs) : SqT K H' a xs := by
  rcases h with (h | ⟨o, h⟩) | h
  · exact .inl (.inl (s.1 _ _ (tab_tup t h (fun _ q => nomatch q)) h))
  · exact .inl (.inr ⟨o, s.1 _ _ (tab_tup t h (fun _ q => nomatch q)) h⟩)
  · exact .inr h
theorem Sm.lst (t : GxR.TabG H P) (s : Sm P H H') (h : SqL K H a xs) : SqL K H' a xs := by
  rcases h with (h | ⟨o, h⟩) | h
  · exact .inl (.inl (s.1 _ _ (tab_tup t h (fun _ q => nomatch q)) h))
  · exact .inl (.inr ⟨o, s.1 _ _ (tab_tup t h (fun _ q => nomatch q)) h⟩)
  · exact .inr h
theorem Sm.atL (t : GxR.TabG H P) (s : Sm P H H') (h : H a = some (.lst xs)) : H' a = some (.lst xs) := s.1 _ _ (tab_tup t h (fun _ q => nomatch q)) h
theorem Sm.free (s : Sm P H H') (t : GxR.TabG H P) (h : H' a = none) : H a = none := by
  cases q : H a with
  | none => rfl
  | some o =>
    by_cases e : a = P
    · obtain ⟨ps, z, _⟩ := s.2
      rw [e, z] at h
      cases h
    · rw [s.1 _ _ e q] at h
      cases h
end
/-- a def of the text as its callers need it -/
structure Df (K : PySem.W.Frag) (mg : Str → Option Value) (x : Str) (st : Stmt) (ps : List Str) (f : Addr) (fd : FuncData) : Prop where
  F : Fun K x x st f fd
  g : mg x = some (.ref f)
  b : Binds K fd ps []
/-- .. with its code object -/
structure DfC (K : PySem.W.Frag) (mg : Str → Option Value) (x : Str) (st : Stmt) (ps : List Str) (f : Addr) (fd : FuncData) (c : Addr) : Prop where
  ex : ∃ (oc : Value) (od : Option Addr) (kV doc pm : Value) (an : Option Addr) (ct : Value) (osl : Array (Option Value)),
    fd = PySem.W.fnOf x x (defArgs st) (defBody st) (defScope st) .none kV doc pm an (.ref c) ct ∧ K.lookup f = some ⟨oc, od, .func fd, osl⟩ ∧ PySem.W.codeIn K (.ref c) x = true
  kp : PySem.W.keepIn K (.ref f) = true
  g : mg x = some (.ref f)
  b : Binds K fd ps []
theorem DfC.ok {Pg : Program} {w : World} {K : PySem.W.Frag} {mg : Str → Option Value} {base : Heap} {x : Str} {st : Stmt} {f c : Addr} {fd : FuncData} {N ps : List Str} {k : Nat} {sp : Sp} {CX : CXT}
    (F : DfC K mg x st ps f fd c) (S : FnScope N ps (defScope st)) (len : ∀ vs H Q E, sp vs H Q E → vs.length = ps.length)
    (body : ∀ (A : Around) (outer : List Env) (s : Shared) (H : Hp) (vs : List V) (Q : VK) (E : XK), Room k (A.deeper (envOfC x (defScope st) s.heap.objs.size f (.ref c))) → sp vs H Q E →
      ∃ t, PSs (cxOf CX Pg w K mg base N x (defScope st) f (.ref c) A outer s H E) (defBody st) t ∧ t { nx := fun _ H' => Q .non H', rt := Q } (start N vs) H) :
    FnOk Pg w K mg base CX (k + 1) f fd ps sp := by
  obtain ⟨oc, od, kV, doc, pm, an, ct, osl, rfl, lk, hcd⟩ := F.ex
  exact fn_of lk hcd S len body
/-- a pure def: what it asks, what it gives, all else standing -/
def Pu (P : Addr) (pre : List V → Hp → (V → Hp → Prop) → Prop) : Sp := fun vs H Q _ => GxR.TabG H P ∧ ∃ R : V → Hp → Prop, pre vs H R ∧ ∀ v H', Sm P H H' → R v H' → Q v H'
end So

set_option maxRecDepth 100000
set_option maxHeartbeats 4000000
namespace SoE
open PySem PySem.Spec PyProof.Rows L2
/-! ### enumerate of a tuple -/
theorem enum_new {v : Value} {o : Obj} {Z : Heap → Prop} (B : Begins v o Z) :
    Meets (Builtin.«enumerate.__new__» ⟨[.type "enumerate", v], []⟩) (fun _ R s => Z s.heap ∧
      R (.ok (.ret (.ref (s.heap.push o).objs.size))) { s with heap := (s.heap.push o).push { cls := .type "enumerate", data := .fields #[.none, .bool false, .ref s.heap.objs.size, rawInt 0, .none, .none] } }) :=
  .of_wp fun prog w A R s h => by
    obtain ⟨hp, g, d, tk, os⟩ := s
    obtain ⟨z, r⟩ := h
    have hsub := sub_enumerate
    have it0 : ∀ {A' : Around} {E : Value → Shared → Prop} {Q : Value → Shared → Prop}, Q (.ref hp.objs.size) ⟨hp.push o, g, d, tk, os⟩ →
        wpAny (model prog w) A' (pyIter v) Q E ⟨hp, g, d, tk, os⟩ := fun q => B.iter prog w _ _ ⟨hp, g, d, tk, os⟩ _ z q
    wp_walk using it0
    refine wpAny_stack_any fun st => wpAny_pure ?_
    split
    · rename_i c _ _ _ _ _
      cases (c == Value.type "enumerate") <;> (wp_walk using it0; exact ⟨_, rfl, r⟩)
    · wp_walk using it0
      exact ⟨_, rfl, r⟩
theorem enum_call {prog : Program} {w : World} {A : Around} {E : Value → Shared → Prop} {s : Shared} {v : Value} {o : Obj} {Z : Heap → Prop} {Q : Value → Shared → Prop} (B : Begins v o Z) (z : Z s.heap)
    (h : ∀ h', IsEnum h' (s.heap.objs.size + 1) s.heap.objs.size 0 .none → h'.get? s.heap.objs.size = some o → h'.objs.size = s.heap.objs.size + 2 →
      (∀ b u, s.heap.get? b = some u → h'.get? b = some u) → Q (.ref (s.heap.objs.size + 1)) { s with heap := h' }) : wpAny (model prog w) A (call (.type "enumerate") [v]) Q E s := by
  refine callType_new F.called_enumerate (by decide) (F.typeCall_enumerate_1 _) (F.newCall_enumerate_1 _) (fun obj => F.args_object_init_2 obj _) F.entry_enumerate_new (enum_new B) ⟨z, ?_⟩
  have sz : (s.heap.push o).objs.size = s.heap.objs.size + 1 := Heap.size_push ..
  show _ ∧ _
  rw [sz]
  have he : IsEnum ((s.heap.push o).push { cls := .type "enumerate", data := .fields #[.none, .bool false, .ref s.heap.objs.size, rawInt 0, .none, .none] }) (s.heap.objs.size + 1) s.heap.objs.size 0 .none := by
    have q := Heap.get?_push_size (s.heap.push o) (o := { cls := .type "enumerate", data := .fields #[.none, .bool false, .ref s.heap.objs.size, rawInt 0, .none, .none] }) rfl
    rw [sz] at q
    exact q
  exact ⟨⟨_, he, rfl⟩, h _ he (Heap.get?_push_of_some _ (Heap.get?_push_size _ B.free)) (by rw [Heap.size_push, sz]) fun b u x => Heap.get?_push_of_some _ (Heap.get?_push_of_some _ x)⟩
/-- the tuple at a, each item in a new pair with its place -/
def IteT (K : PySem.W.Frag) (a : Addr) : It :=
  ⟨fun i H => ∃ (xs : List V) (x : V), SqT K H a xs ∧ xs[i]? = some x,
    fun i H v H' => ∃ T x, v = .ref T ∧ H T = none ∧ H' = upd H T (.tup [.int (i : Nat), x]) ∧ ∀ xs, SqT K H a xs → xs[i]? = some x,
    fun i H => ∃ xs : List V, SqT K H a xs ∧ xs.length = i⟩
theorem walk_enumT {K : PySem.W.Frag} {a : Addr} {xs : List V} : Walk (IteT K a) xs.length (fun H => SqT K H a xs) (YPair (fun i => some (.int (i : Nat))) (fun i => xs[i]?)) := by
  refine ⟨fun i _ hi q => ⟨xs, xs[i], q, by simp [hi]⟩, fun _ q => ⟨xs, q, rfl⟩, fun i H v H' _ q y => ?_⟩
  obtain ⟨T, x, h1, h2, h3, h4⟩ := y
  exact ⟨T, .int (i : Nat), x, h1, h2, h3, rfl, h4 xs q⟩
theorem turn_enumT {P : Program} {w : World} {K : PySem.W.Frag} {elts : List Expr} {kk : Nat} {tpos : Pos} (a e it : Addr) :
    Turn P w K (.Tuple elts kk tpos) (IteT K a) [e, it] e (fun i h => (∃ old, IsEnum h e it ((i : Nat) : Int) old) ∧ h.IsTupleIter it a i ∧ e ≠ it) where
  mem := by simp
  obj := fun i h st b hb => by
    obtain ⟨⟨old, he⟩, ⟨o, ho, hc, hd⟩, _⟩ := st
    have e' : b = e ∨ b = it := by simpa using hb
    rcases e' with z | z
    · rw [z]; exact ⟨_, he, fun v q => nomatch q⟩
    · rw [z]; exact ⟨o, ho, fun v q => by rw [hd] at q; cases q⟩
  keep := fun i h h' st k => let ⟨⟨old, he⟩, hi, hne⟩ := st; ⟨⟨old, k e (by simp) _ he⟩, hi.at fun o q => k it (by simp) o q, hne⟩
  item := by
    intro X hP hw hK hc i pins s σ H E I hf st hg
    subst hP hw hK
    obtain ⟨⟨old, he⟩, hit, hne⟩ := st
    obtain ⟨xs, x, hq, hx⟩ := hg
    obtain ⟨its, rv, p, hz⟩ := I.tuple hq
    have pt : s.heap.IsTuple a its.toArray := p
    obtain ⟨u, hu, ru⟩ := rv.get hx
    have hel : e < s.heap.objs.size := Heap.lt_size he
    have hil : it < s.heap.objs.size := by obtain ⟨_, q, _⟩ := hit; exact Heap.lt_size q
    have nai : a ≠ it := fun z => by
      obtain ⟨o1, q1, c1, _⟩ := hit
      obtain ⟨o2, q2, c2, _⟩ := pt
      rw [z, q1] at q2
      cases q2
      rw [c1] at c2
      exact absurd c2 (by simp)
    have nae : e ≠ a := fun z => by
      obtain ⟨o2, q2, c2, _⟩ := pt
      rw [← z] at q2
      have he' : s.heap.get? e = some _ := he
      rw [he'] at q2
      cases q2
      exact absurd c2 (by simp)
    have hlt : i < its.toArray.size := by
      have q := (List.getElem?_eq_some_iff.mp hu).1
      simpa using q
    refine wpAny_pyNext_enum_itemC (Draws.tuple (A := X.A.in1) (I.ok.hd hc) it a nai its.toArray) he ⟨hit, pt⟩ hlt hne (by simp [hne, nae]) fun y h' tk hPy ho hst' hT hsz hk => ?_
    have hy : y = u := by
      have q : its.toArray[i]? = some u := by simpa using hu
      have q2 : its.toArray[i]? = some y := hPy
      rw [q] at q2
      exact (Option.some.inj q2).symm
    subst hy
    refine ⟨_, rfl, wpAny_letOwnedTupleGo_enum (s := { s with heap := h', toks := tk + 1 }) ho fun h'' he' sb => ?_⟩
    have hT2 : h''.get? s.heap.objs.size = some { cls := .type "tuple", data := .seq #[.int i tk, y] } := (sb.2 _ (Nat.ne_of_gt hel)).trans hT
    have new : ObjOk X.prog X.w (upd H s.heap.objs.size (.tup [.int (i : Nat), x])) h'' s.heap.objs.size (.tup [.int (i : Nat), x]) :=
      ⟨by show 2 ≤ sizeLine; decide, [.int i tk, y], .cons ⟨_, rfl⟩ (.cons ru .nil), ⟨_, hT2, rfl, _, rfl⟩⟩
    have I1 : Inv X pins σ (upd H s.heap.objs.size (.tup [.int (i : Nat), x])) { s with heap := h'', toks := tk + 1 } :=
      I.turnedNew (ch := [e, it]) (fun b ob hb q => (sb.2 b (fun z => hb (by simp [z]))).trans (hk b ob (fun z => hb (by simp [z])) (fun z => hb (by simp [z])) q)) hf (Nat.le_refl _) new
    refine ⟨.ref s.heap.objs.size, _, I1, rfl, ⟨_, x, rfl, I.hok.fresh (Nat.le_refl _), rfl, fun ys hy => by rw [I.tuple_inj hy hq]; exact hx⟩, ⟨⟨y, ?_⟩, hst'.1.at fun o q => (sb.2 it (Ne.symm hne)).trans q, hne⟩, fun b hb => ?_⟩
    · have e1 : ((i + 1 : Nat) : Int) = (i : Int) + 1 := by omega
      rw [e1]; exact he'
    · have hb' : b < s.heap.objs.size := by
        have e' : b = e ∨ b = it := by simpa using hb
        rcases e' with z | z
        · rw [z]; exact hel
        · rw [z]; exact hil
      rw [upd_ne (Nat.ne_of_lt hb')]
      exact (hf b hb).1
  done := by
    intro X hP hw hK hc i pins s σ H E I hf st hg
    subst hP hw hK
    obtain ⟨⟨old, he⟩, hit, hne⟩ := st
    obtain ⟨xs, hq, hx⟩ := hg
    obtain ⟨its, rv, p, hz⟩ := I.tuple hq
    have pt : s.heap.IsTuple a its.toArray := p
    have nai : a ≠ it := fun z => by
      obtain ⟨o1, q1, c1, _⟩ := hit
      obtain ⟨o2, q2, c2, _⟩ := pt
      rw [z, q1] at q2
      cases q2
      rw [c1] at c2
      exact absurd c2 (by simp)
    obtain ⟨f0, f1, f2, f3, f4, f5⟩ := hf it (by simp)
    have hl := rv.length
    have en : i = its.toArray.size := by
      rw [List.size_toArray]
      omega
    subst en
    exact wpAny_pyNext_enum_endD (Draws.tuple (A := X.A.in1) (I.ok.hd hc) it a nai its.toArray) he ⟨hit, pt⟩ fun h' eb => ⟨rfl, I.turned (t' := s.toks) (fun b o hb q => eb b o hb q) f0 f1 f3 f4 f5⟩
  self := fun A i s Q E st h => let ⟨⟨_, he⟩, _⟩ := st; wpAny_pyIter_enum he h
def iEnumT (K : PySem.W.Frag) (ta : TA) : TI := fun σ H R => ta σ H fun vs H1 => ∃ a xs, vs = [.ref a] ∧ SqT K H1 a xs ∧ R (IteT K a) H1
theorem pi_enumT {X : Cx} {e : Expr} {ta : TA} {p pos tpos : Pos} {elts : List Expr} {kk : Nat} (hg : Gl X "enumerate") (hm : X.mg "enumerate" = none) (ha : PA X [e] ta) (hs : starEach [e] X.env = [(false, eval e X.env)] := by rfl) :
    PI X (.Tuple elts kk tpos) (.Call (.Name "enumerate" p) [e] [] pos) (iEnumT X.K ta) := by
  refine ⟨fun pins s σ H R I h => ?_⟩
  refine Call_ (ld_blt I hg hm boot_enumerate (PyProof.Rows.callWith_type1 (thn (ha.run pos pins s σ H _ I h) fun us z hz => ?_) hs rfl))
  obtain ⟨vs, H1, I1, r1, a, xs, rfl, hq, q⟩ := hz
  cases r1 with
  | cons r rr =>
    cases rr
    cases r
    obtain ⟨its, rv, p', hz⟩ := I1.tuple hq
    refine enum_call (begins_tuple a its.toArray) (show z.heap.IsTuple a its.toArray from p') fun h' he hit hsz hk => wpAny_pyIter_enum he ?_
    have I2 : Inv X pins σ H1 { z with heap := h' } := I1.kept (t' := z.toks) hk
    refine ⟨z.heap.objs.size + 1, [z.heap.objs.size + 1, z.heap.objs.size], _, _, H1, rfl, I2, turn_enumT a (z.heap.objs.size + 1) z.heap.objs.size, ⟨⟨.none, he⟩, ⟨_, hit, rfl, rfl⟩, Nat.succ_ne_self _⟩, fun b hb => ?_, q⟩
    have e' : b = z.heap.objs.size + 1 ∨ b = z.heap.objs.size := by simpa using hb
    have hle : z.heap.objs.size ≤ b := by
      rcases e' with y | y
      · rw [y]; exact Nat.le_add_right _ _
      · rw [y]; exact Nat.le_refl _
    exact I1.fpOk hle (I1.hok.fresh hle)
end SoE

set_option maxRecDepth 100000
set_option maxHeartbeats 4000000
namespace SoRv
open PySem PySem.Spec PyProof.Rows L2 RT
theorem no_len : typeLookup (.type "reversed") "__len__" = pure none := by rw [typeLookup_type, builtinLookup_eq_fast]; kernel_rfl
theorem has_hint : typeLookup (.type "reversed") "__length_hint__" = pure (some (.builtin "reversed.__length_hint__")) := by rw [typeLookup_type, builtinLookup_eq_fast]; kernel_rfl
theorem slot_hint : Slot "reversed" "__length_hint__" "reversed.__length_hint__" :=
  .of (owner := "reversed") (n := "__length_hint__") (by rw [typeLookup_type, builtinLookup_eq_fast]; kernel_rfl) (by decide +kernel) (by decide +kernel) (by decide +kernel)
    (by first | exact .inl (by decide +kernel) | exact .inr (by decide +kernel)) (by rw [isSubtype_type]; kernel_rfl)
theorem entry_hint : entryFor table "reversed.__length_hint__" = some Builtin.«reversed.__length_hint__» := entryFor_of_tree (by kernel_rfl)
theorem args_hint (a : Value) : argsOk "reversed.__length_hint__" ⟨[a], []⟩ := by
  unfold argsOk
  rw [signature?_of (id := "reversed.__length_hint__") (n := ['_', '_', 't', 'n', 'i', 'h', '_', 'h', 't', 'g', 'n', 'e', 'l', '_', '_']) (o := ['d', 'e', 's', 'r', 'e', 'v', 'e', 'r']) (by kernel_rfl) owner_rt]
  kernel_rfl
theorem type_hint : typeOf (.builtin "reversed.__length_hint__") = pure (.type "method_descriptor") := by kernel_rfl
section
variable {prog : Program} {w : World} {A : Around} {E : Value → Shared → Prop} {s : Shared}
theorem walks_rt (hh : A.handled = none) (I t : Addr) (hne : t ≠ I) (items : Array Value) (hz : items.size ≤ sizeLine) :
    Walks prog w A I [I, t] [I] items.size (fun i v => items[items.size - 1 - i]? = some v) (fun i h => i ≤ items.size ∧ IsRt h I t ((items.size : Int) - 1 - (i : Int)) ∧ IsTup h t items) where
  sub := fun b hb => by simp at hb; simp [hb]
  frame := fun i h h' x hk => ⟨x.1, x.2.1.at fun o e => hk I (by simp) o e, by
    obtain ⟨o, ho, r⟩ := x.2.2
    exact ⟨o, hk t (by simp) o ho, r⟩⟩
  item := fun i s Q E hi x hQ => by
    obtain ⟨x1, hit, ht⟩ := x
    have e : (items.size : Int) - 1 - (i : Int) = ((items.size - 1 - i : Nat) : Int) := by omega
    rw [e] at hit
    have hx : items[items.size - 1 - i]? = some (items[items.size - 1 - i]'(by omega)) := Array.getElem?_eq_getElem (by omega)
    refine next_rt_item hit ht hx hz fun h' hit' hs' => ?_
    have e2 : ((items.size - 1 - i : Nat) : Int) - 1 = (items.size : Int) - 1 - ((i + 1 : Nat) : Int) := by omega
    rw [e2] at hit'
    refine hQ _ h' (s.toks + 1) hx ⟨hi, hit', ?_⟩ fun b o hb eo => hs'.extBut b o (fun h => hb (by simp [h])) eo
    obtain ⟨o, ho, r⟩ := ht
    exact ⟨o, (hs'.2 t hne).trans ho, r⟩
  done := fun s Q E x hQ => by
    have e : (items.size : Int) - 1 - (items.size : Int) = -1 := by omega
    have hit := x.2.1
    rw [e] at hit
    exact next_rt_end hh hit fun h' he' => hQ h' s.toks fun b o hb eo => he' b o (fun h => hb (by simp [h])) eo
  self := fun _ _ _ _ x hQ => iter_rt x.2.1 hQ
theorem hint_rt {it t : Addr} {items : Array Value} {Q : Value → Shared → Prop} (hit : IsRt s.heap it t ((items.size : Int) - 1)) (ht : IsTup s.heap t items) (hn : items.size ≤ sizeLine)
    (hQ : ∀ u tk, Q (.int (items.size : Nat) u) { s with toks := tk }) : wpAny (model prog w) A (call (.builtin "reversed.__length_hint__") [.ref it]) Q E s := by
  refine wpAny_call_entry slot_hint hit.typeIs entry_hint ?_ (args_hint _)
  obtain ⟨o, ho, hc, hd⟩ := id hit
  unfold Builtin.«reversed.__length_hint__»
  refine wpAny_bind (wpAny_of_eq (a := Value.ref it) rfl ?_)
  try dsimp only
  refine wpAny_bind (wpAny_field ho hd (x := .ref t) rfl ?_)
  try dsimp only
  rw [if_neg (by simp)]
  try dsimp only
  refine wpAny_bind (PyProof.Rows.len_tuple ht (by rw [sizeLine_eq] at hn; omega) ?_)
  try dsimp only
  refine wpAny_bind (wpAny_of_eq (a := some ((items.size : Nat) : Int)) rfl ?_)
  try dsimp only
  refine wpAny_bind (wpAny_field (s := { s with toks := s.toks + 1 + 1 }) ho hd (x := rawInt ((items.size : Int) - 1)) rfl ?_)
  try dsimp only
  show wpAny _ _ (if ((items.size : Nat) : Int) < ((items.size : Int) - 1) + 1 then _ else retInt (((items.size : Int) - 1) + 1)) _ _ _
  rw [if_neg (by omega), show ((items.size : Int) - 1) + 1 = ((items.size : Nat) : Int) by omega]
  unfold retInt
  exact wpAny_bind (wpAny_mkInt (wpAny_pure ⟨_, rfl, hQ _ _⟩))
theorem size_rt {it t : Addr} {items : Array Value} {Q : Bool → Shared → Prop} (hit : IsRt s.heap it t ((items.size : Int) - 1)) (ht : IsTup s.heap t items) (hn : items.size ≤ sizeLine)
    (hQ : ∀ tk, Q (((items.size : Nat) : Int) != 0) { s with toks := tk }) : wpAny (model prog w) A (Builtin.List.listLengthHint (.ref it)) Q E s := by
  have hT : s.TypeIs (.ref it) "reversed" := hit.typeIs
  unfold Builtin.List.listLengthHint
  refine wpAny_bind (wpAny_specialOf hT no_len ?_)
  show wpAny _ A (specialOf (Value.ref it) (Str.ofString "__length_hint__") >>= _) _ _ _
  refine wpAny_bind (wpAny_specialOf hT has_hint ?_)
  generalize hid : ("reversed.__length_hint__" : String) = id0
  wp_delta
  rw [show splitId id0 = some ("reversed", "__length_hint__") from by subst hid; decide +kernel]
  subst hid
  refine wpAny_bind (wpAny_isInstance (b := true) hT (by rw [isSubtype_type]; kernel_rfl) ?_)
  simp only [Bool.not_true, Bool.false_eq_true, if_false]
  rw [if_neg (by decide +kernel)]
  refine wpAny_bind (wpAny_rule ?_)
  unfold bindSpecial
  refine wpAny_bind (wpAny_bind (wpAny_of_eq type_hint ?_))
  rw [if_pos (by decide +kernel)]
  refine wpAny_pure ?_
  refine wpAny_bind (wpAny_attempt (hint_rt hit ht hn fun u tk => ?_))
  have big : (items.size : Int) < 2 ^ 63 := by
    rw [sizeLine_eq] at hn
    omega
  have fit : Builtin.List.listFitsIndex ((items.size : Nat) : Int) = true := by
    unfold Builtin.List.listFitsIndex
    simp only [Bool.and_eq_true, decide_eq_true_eq]
    exact ⟨by omega, big⟩
  have tl : Builtin.List.listTooLong (((items.size : Nat) : Int).toNat) = false := by
    simp only [Builtin.List.listTooLong, Int.toNat_natCast, decide_eq_false_iff_not]
    omega
  have ea : asInt? (Value.int ((items.size : Nat) : Int) u) = pure (some ((items.size : Nat) : Int)) := rfl
  dsimp only
  rw [ea]
  refine wpAny_bind ?_
  refine wpAny_pure ?_
  dsimp only
  simp only [fit, tl, Bool.not_true, Bool.false_eq_true, if_false, if_neg (show ¬ ((items.size : Nat) : Int) < 0 by omega)]
  exact wpAny_pure (hQ tk)
theorem extend_rt {it t S : Addr} {items : Array Value} {R : Result → Shared → Prop} {res : Value} {c₀ : Nat} (hh : A.handled = none) (hit : IsRt s.heap it t ((items.size : Int) - 1)) (ht : IsTup s.heap t items) (hne : t ≠ it)
    (hn : items.size ≤ sizeLine) (hS : s.heap.get? S = some { cls := .type "list", data := .seq #[] c₀ }) (hSi : S ≠ it)
    (hR : ∀ h' tk acc' c', (∀ b o, b ≠ S → b ≠ it → s.heap.get? b = some o → h'.get? b = some o) → h'.get? S = some { cls := .type "list", dict := none, data := .seq acc' c', slots := #[] } →
      ItemsOf (fun i v => items[items.size - 1 - i]? = some v) acc' items.size → R (.ok (.ret res)) { s with heap := h', toks := tk }) :
    wpAny (model prog w) A.in1 (Builtin.List.listExtendWith (.ref S) (.ref it) res)
      (fun fin s' => match fin with | .done f => R (.ok f) s' | .again c' => c'.quiet = true ∧ codeAny (model prog w) A c' R s') (fun e s' => R (.error e) s') s := by
  have St : S ≠ t := fun e => by
    obtain ⟨o, ho, hc, _⟩ := ht
    rw [← e, hS] at ho
    cases ho
    exact absurd hc (by simp)
  have W := (walks_rt (prog := prog) (w := w) (A := A.in1) hh it t hne items hn).toS
  have hSf : S ∉ [it, t] := by simp only [List.mem_cons, List.not_mem_nil, or_false, not_or]; exact ⟨hSi, St⟩
  have hT : s.TypeIs (.ref it) "reversed" := hit.typeIs
  have h1 : Builtin.List.listSameRef (.ref S) (.ref it) = false := by simp [Builtin.List.listSameRef, hSi]
  unfold Builtin.List.listExtendWith
  refine wpAny_bind (wpAny_typeOf hT ?_)
  rw [if_neg (by rw [h1]; decide)]
  refine wpAny_bind (iter_rt hit ?_)
  have go : ∀ (h : Heap) (c₁ tk : Nat), IsRt h it t ((items.size : Int) - 1) → IsTup h t items → (∀ b o, b ≠ S → s.heap.get? b = some o → h.get? b = some o) →
      h.get? S = some { cls := .type "list", data := .seq #[] c₁ } → codeAny (model prog w) A (.builtin "list.extend.loop" ⟨[.ref S, .ref it, res], []⟩) R { s with heap := h, toks := tk } := by
    intro h c₁ tk hit1 ht1 hk hS₁
    have e0 : ((items.size : Nat) : Int) - 1 - ((0 : Nat) : Int) = (items.size : Int) - 1 := by omega
    refine codeAny_extend_loopS W hn S hSf res items.size 0 _ #[] c₁ rfl (Nat.zero_le _) ⟨Nat.zero_le _, by rw [e0]; exact hit1, ht1⟩ hS₁ (ItemsOf.nil _) fun z acc' c' hm hS' hacc => ?_
    rw [Moved.eq_with hm]
    refine hR z.heap z.toks acc' c' (fun b o hb hi e => hm.heap b o (fun hmem => ?_) (hk b o hb e)) hS' hacc
    rcases List.mem_cons.mp hmem with e' | hmem
    · exact hb e'
    · exact hi (List.mem_singleton.mp hmem)
  refine wpAny_bind (wpAny_holding (size_rt hit ht hn fun tk => ?_))
  refine wpAny_ite_split (fun _ => ?_) (fun _ => wpAny_pure ⟨plainId_quiet F.plain_extend_loop _, go s.heap c₀ tk hit ht (fun b o _ e => e) hS⟩)
  refine wpAny_bind (wpAny_rule ?_)
  refine wpAny_bind ?_
  show wpAny _ _ (updateSeq S (·.push .none) >>= fun _ => updateSeq S (·.pop)) _ _ _
  refine wpAny_bind (wpAny_updateSeq hS rfl ?_)
  have hS₂ := Heap.get?_update_self (Obj.mapSeq (·.push Value.none)) hS rfl
  refine wpAny_updateSeq (hz := by seq_fits) hS₂ rfl ?_
  have hS₃ := Heap.get?_update_self (Obj.mapSeq (·.pop)) hS₂ rfl
  have oth : ∀ b o, b ≠ S → s.heap.get? b = some o → ((s.heap.update S (Obj.mapSeq (·.push Value.none))).update S (Obj.mapSeq (·.pop))).get? b = some o :=
    fun b o hb e => (Heap.get?_update_other _ _ (Ne.symm hb)).trans ((Heap.get?_update_other _ _ (Ne.symm hb)).trans e)
  refine wpAny_pure ⟨plainId_quiet F.plain_extend_loop _, go _ _ tk (hit.at fun o e => oth it o (Ne.symm hSi) e) ?_ oth hS₃⟩
  obtain ⟨o, ho, r⟩ := ht
  exact ⟨o, oth t o (Ne.symm St) ho, r⟩
/-- list(reversed(t)), the iterator at it -/
theorem list_rt {it t : Addr} {items : Array Value} {Q : Value → Shared → Prop} (hh : A.handled = none) (hit : IsRt s.heap it t ((items.size : Int) - 1)) (ht : IsTup s.heap t items) (hne : t ≠ it) (hn : items.size ≤ sizeLine)
    (hQ : ∀ h' tk acc c, (∀ b o, b ≠ it → s.heap.get? b = some o → h'.get? b = some o) → h'.get? s.heap.objs.size = some { cls := .type "list", dict := none, data := .seq acc c, slots := #[] } →
      ItemsOf (fun i v => items[items.size - 1 - i]? = some v) acc items.size → Q (.ref s.heap.objs.size) { s with heap := h', toks := tk }) :
    wpAny (model prog w) A (call (.type "list") [.ref it]) Q E s := by
  refine callType_codes (Q₁ := fun obj z => obj = .ref s.heap.objs.size ∧ z = { s with heap := s.heap.push { cls := .type "list", data := .seq #[] } }) F.called_list (F.typeCall_list_1 _) F.entry_list_init
    (code_list_new _ ⟨rfl, rfl⟩) fun obj z hz => ?_
  obtain ⟨rfl, rfl⟩ := hz
  have hS : (s.heap.push { cls := .type "list", data := .seq #[] }).get? s.heap.objs.size = some { cls := .type "list", data := .seq #[] } := Heap.get?_push_size _ rfl
  have hSi : s.heap.objs.size ≠ it := fun e => by
    obtain ⟨o, ho, _⟩ := hit
    have := Heap.lt_size ho
    rw [← e] at this
    exact Nat.lt_irrefl _ this
  refine ⟨⟨_, hS, rfl⟩, F.args_list_init_2 _ _, ?_⟩
  show wpAny _ _ (do let old ← Builtin.List.listItems (.ref s.heap.objs.size); Builtin.List.listUpdate (.ref s.heap.objs.size) (fun _ => #[]); letGo old.toList.reverse; Builtin.List.listExtendWith (.ref s.heap.objs.size) (.ref it) .none) _ _ _
  refine wpAny_bind ?_
  unfold Builtin.List.listItems
  refine wpAny_bind (wpAny_seqItems hS rfl (wpAny_pure ?_))
  show wpAny _ _ (updateSeq s.heap.objs.size (fun _ => #[]) >>= fun _ => letGo (#[] : Array Value).toList.reverse >>= fun _ => Builtin.List.listExtendWith (.ref s.heap.objs.size) (.ref it) .none) _ _ _
  refine wpAny_bind (wpAny_updateSeq hS rfl ?_)
  have hS₂ := Heap.get?_update_self (Obj.mapSeq (fun _ => (#[] : Array Value))) hS rfl
  have oth : ∀ b o, s.heap.get? b = some o → ((s.heap.push { cls := .type "list", data := .seq #[] }).update s.heap.objs.size (Obj.mapSeq (fun _ => (#[] : Array Value)))).get? b = some o :=
    fun b o e => (Heap.get?_update_other _ _ (Nat.ne_of_gt (Heap.lt_size e))).trans (Heap.get?_push_of_some _ e)
  refine wpAny_bind (wpAny_letGo ?_)
  have ht2 : IsTup ((s.heap.push { cls := .type "list", data := .seq #[] }).update s.heap.objs.size (Obj.mapSeq (fun _ => (#[] : Array Value)))) t items := by
    obtain ⟨o, ho, r⟩ := ht
    exact ⟨o, oth t o ho, r⟩
  refine extend_rt (A := A.in1) hh (hit.at fun o e => oth it o e) ht2 hne hn hS₂ hSi fun h' tk acc' c' hk hS' hacc => ?_
  exact ⟨rfl, hQ h' tk acc' c' (fun b o hb e => hk b o (Nat.ne_of_lt (Heap.lt_size e)) hb (oth b o e)) hS' hacc⟩
end
/-- list(reversed(x)), x a tuple: a new list -/
def tLstRev (K : PySem.W.Frag) (te : TE) : TE := fun σ H Q => te σ H fun v H1 => ∃ (a : Addr) (xs : List V), v = .ref a ∧ SqT K H1 a xs ∧ ∀ q, H1 q = none → Q (.ref q) (upd H1 q (.lst xs.reverse))
theorem pe_lstRev {X : Cx} {e : Expr} {te : TE} {p p2 pos pos2 : Pos} (hc : X.calm = true) (hg : Gl X "list") (hm : X.mg "list" = none) (hg2 : Gl X "reversed") (hm2 : X.mg "reversed" = none) (he : PE X e te)
    (hs : starEach [e] X.env = (false, eval e X.env) :: starEach [] X.env := by rfl)
    (hs2 : starEach [.Call (.Name "reversed" p2) [e] [] pos2] X.env = (false, eval (.Call (.Name "reversed" p2) [e] [] pos2) X.env) :: starEach [] X.env := by rfl) :
    PE X (.Call (.Name "list" p) [.Call (.Name "reversed" p2) [e] [] pos2] [] pos) (tLstRev X.K te) := by
  refine ⟨fun pins s σ H Q I h => ?_⟩
  refine Call_ (ld_blt I hg hm boot_list (PyProof.Rows.callWith_type1 (args_cons (Call_ (ld_blt I hg2 hm2 PyProof.Rows.boot_reversed (PyProof.Rows.callWith_type1 (args_cons (thn (he.run pins s σ H _ I h) fun u z hz => args_nil ?_) hs) hs rfl))) hs2) hs2 rfl))
  obtain ⟨v, H1, I1, r1, a, xs, rfl, hq, q⟩ := hz
  obtain rfl : u = Value.ref a := r1
  obtain ⟨its, rv, p', hz⟩ := I1.tuple hq
  have hl := rv.length
  have hn := line63
  have sz : its.toArray.size ≤ sizeLine := by rw [List.size_toArray, ← rv.length]; exact hz
  refine call_reversed_tup p' (fun A E Q k => len_tuple p' (by simp only [List.size_toArray] <;> omega) k) (args_nil ?_)
  have k0 : ∀ b o, z.heap.get? b = some o → (z.heap.push (rtObj a ((its.toArray.size : Int) - 1))).get? b = some o := fun b o e => Heap.get?_push_of_some _ e
  have I2 : Inv X pins σ H1 { z with heap := z.heap.push (rtObj a ((its.toArray.size : Int) - 1)), toks := z.toks + 1 + 1 } := I1.kept (t' := z.toks + 1 + 1) k0
  obtain ⟨f0, f1, f2, f3, f4, f5⟩ := I1.fpOk (H' := H1) (b := z.heap.objs.size) (Nat.le_refl _) (I1.hok.fresh (Nat.le_refl _))
  have tp : IsTup (z.heap.push (rtObj a ((its.toArray.size : Int) - 1))) a its.toArray := by
    obtain ⟨o, ho, r⟩ := p'
    exact ⟨o, k0 _ _ ho, r⟩
  have hne : a ≠ z.heap.objs.size := by
    obtain ⟨o, ho, _⟩ := p'
    exact Nat.ne_of_lt (Heap.lt_size ho)
  refine list_rt (s := { z with heap := z.heap.push (rtObj a ((its.toArray.size : Int) - 1)), toks := z.toks + 1 + 1 }) (I1.ok.hd hc) ⟨_, Heap.get?_push_size _ rfl, rfl, rfl⟩ tp hne sz fun h' tk acc c hk hS hi => ?_
  have szp : (z.heap.push (rtObj a ((its.toArray.size : Int) - 1))).objs.size = z.heap.objs.size + 1 := Heap.size_push ..
  have hf : H1 (z.heap.objs.size + 1) = none := I1.hok.fresh (Nat.le_succ _)
  have hS' : h'.get? (z.heap.objs.size + 1) = some { cls := .type "list", dict := none, data := .seq acc c, slots := #[] } := by rw [← szp]; exact hS
  have kz : ∀ b o, z.heap.get? b = some o → h'.get? b = some o := fun b o e => hk b o (Nat.ne_of_lt (Heap.lt_size e)) (k0 b o e)
  refine ⟨.ref (z.heap.objs.size + 1), upd H1 (z.heap.objs.size + 1) (.lst xs.reverse), ?_, ?_, q _ hf⟩
  · exact I1.laid (t' := tk) kz (Nat.le_succ _) (show ObjOk X.prog X.w _ _ _ (.lst xs.reverse) from ⟨by rw [List.length_reverse]; exact hz, acc.toList, c, vals_rev rv hi, by rw [Array.toArray_toList]; exact hS'⟩)
  · show Value.ref (z.heap.push (rtObj a ((its.toArray.size : Int) - 1))).objs.size = Value.ref (z.heap.objs.size + 1)
    rw [szp]
end SoRv

set_option maxRecDepth 100000
set_option maxHeartbeats 4000000
namespace SoM
open PySem PySem.Spec PyProof.Rows L2
/-! ### a tuple that isn't empty, no times, once -/
theorem mul_none (l : Addr) (items : Array Value) (n : Nat) (dd : Option Addr) (sl : Array (Option Value)) (u : Tok) (hi : items.isEmpty = false) :
    Meets (Builtin.«tuple.__mul__» ⟨[.ref l, .int 0 u], []⟩) (fun _ R s => s.heap.get? l = some { cls := .type "tuple", dict := dd, data := .seq items n, slots := sl } ∧
      R (.ok (.ret (Value.ref s.heap.objs.size))) { s with heap := s.heap.push { cls := Value.type "tuple", data := Data.seq #[] }, toks := s.toks }) :=
  .of_wp fun prog w A R s h => by
    obtain ⟨hp, g, d, tk, os⟩ := s
    obtain ⟨hl, h⟩ := h
    have f1 := AutoSeq1.idx_int
    wp_walk using wpAny_loadPart' hl
    repeat (first
      | (refine wpAny_ite_false (decide_eq_false (by rw [hi]; decide)) ?_; wp_walk using wpAny_loadPart' hl)
      | (refine wpAny_ite_true (decide_eq_true (by rw [hi]; decide)) ?_; wp_walk using wpAny_loadPart' hl))
    exact ⟨_, rfl, h⟩
theorem mul_once (l : Addr) (items : Array Value) (n : Nat) (dd : Option Addr) (sl : Array (Option Value)) (u : Tok) (hi : items.isEmpty = false) :
    Meets (Builtin.«tuple.__mul__» ⟨[.ref l, .int 1 u], []⟩) (fun _ R s => s.heap.get? l = some { cls := .type "tuple", dict := dd, data := .seq items n, slots := sl } ∧
      R (.ok (.ret (Value.ref l))) s) :=
  .of_wp fun prog w A R s h => by
    obtain ⟨hp, g, d, tk, os⟩ := s
    obtain ⟨hl, h⟩ := h
    have f1 := AutoSeq1.idx_int
    wp_walk using wpAny_loadPart' hl
    repeat (first
      | (refine wpAny_ite_false (decide_eq_false (by rw [hi]; decide)) ?_; wp_walk using wpAny_loadPart' hl)
      | (refine wpAny_ite_true (decide_eq_true (by rw [hi]; decide)) ?_; wp_walk using wpAny_loadPart' hl))
    exact ⟨_, rfl, h⟩
def rRepS (K : PySem.W.Frag) : R2 := fun x y H Q => ∃ l k xs, x = .ref l ∧ y = .int k ∧ SqT K H l xs ∧ xs ≠ [] ∧ 0 ≤ k ∧ k ≤ 1000 ∧ xs.length ≤ 1000 ∧ (k = 1 → Q (.ref l) H) ∧ (k ≠ 1 → ∀ p, H p = none → Q (.ref p) (upd H p (.tup (List.replicate k.toNat xs).flatten)))
theorem op_repS {X : Cx} : OpR X (binaryOp .Mult) (rRepS X.K) := by
  intro pins s σ H x y v u Q I rx ry h
  obtain ⟨l, k, xs, rfl, rfl, hT, hne, h1, h2, hz, q1, q2⟩ := h
  by_cases k2 : 2 ≤ k
  · exact op_repT pins s σ H _ _ v u Q I rx ry ⟨l, k, xs, rfl, rfl, hT, hne, k2, h2, hz, q2 (by omega)⟩
  cases rx
  obtain ⟨t, rfl⟩ := ry
  obtain ⟨its, r, ⟨⟨cls, dd, data, sl⟩, ho, hc, n, hd⟩, hs⟩ := I.tuple hT
  simp only at hc hd
  subst hc hd
  have hn : its ≠ [] := fun e => hne (by
    have hle := r.length
    rw [e] at hle
    exact List.eq_nil_of_length_eq_zero hle)
  have hi : its.toArray.isEmpty = false := by
    cases its with
    | nil => exact absurd rfl hn
    | cons a b => rfl
  by_cases k1 : k = 1
  · subst k1
    refine wpAny_binaryOp_repeat_ref (T := "tuple") (U := "int") (by decide) ⟨_, ho, rfl⟩ (fun s' => typeIs_int s' 1 t) noFill_tuple_mul F.fills_int_mul F.slot_int_rmul repeat_tuple F.slot_int_index.lookup
      (call_meets F.slot_int_rmul (typeIs_int s 1 t) F.entry_int_rmul (F.args_int_rmul_2 _ _) (int_rmul_tuple 1 t l its.toArray n dd sl)
        ⟨ho, rfl, ⟨_, ho, rfl⟩, call_meets F.slot_tuple_mul ⟨_, ho, rfl⟩ F.entry_tuple_mul (F.args_tuple_mul_2 _ _) (mul_once l its.toArray n dd sl t hi) ⟨ho, ?_⟩⟩)
    exact ⟨.ref l, H, I, rfl, q1 rfl⟩
  · have k0 : k = 0 := by omega
    subst k0
    refine wpAny_binaryOp_repeat_ref (T := "tuple") (U := "int") (by decide) ⟨_, ho, rfl⟩ (fun s' => typeIs_int s' 0 t) noFill_tuple_mul F.fills_int_mul F.slot_int_rmul repeat_tuple F.slot_int_index.lookup
      (call_meets F.slot_int_rmul (typeIs_int s 0 t) F.entry_int_rmul (F.args_int_rmul_2 _ _) (int_rmul_tuple 0 t l its.toArray n dd sl)
        ⟨ho, rfl, ⟨_, ho, rfl⟩, call_meets F.slot_tuple_mul ⟨_, ho, rfl⟩ F.entry_tuple_mul (F.args_tuple_mul_2 _ _) (mul_none l its.toArray n dd sl t hi) ⟨ho, ?_⟩⟩)
    refine ⟨.ref s.heap.objs.size, _, I.laid (t' := s.toks) (o := .tup (List.replicate (0 : Int).toNat xs).flatten) (fun b ob q => Heap.get?_push_of_some _ q) (Nat.le_refl _) ?_, rfl, q2 k1 _ (I.hok.fresh (Nat.le_refl _))⟩
    exact ⟨Nat.zero_le _, [], .nil, IsTup.new _ _⟩
end SoM

set_option maxRecDepth 100000
set_option maxHeartbeats 4000000
namespace K6
open PySem PySem.Spec PyProof.Rows L2 So
def top (i : Nat) : Stmt := PySem.Challenge.pw_stillopen_k06_whole_all_rows_of_a_few_si.main.body.getD i (.Pass ⟨0, 0, 0, 0⟩)
def lets : Str := "abcdefghijklmnopqrstuvwxyz"
structure Tx (K : PySem.W.Frag) (mg : Str → Option Value) : Prop where
  isi : mg "isinstance" = none
  list : mg "list" = none
  tuple : mg "tuple" = none
  len : mg "len" = none
  int : mg "int" = none
  bool : mg "bool" = none
  str : mg "str" = none
  all : mg "all" = none
  enumerate : mg "enumerate" = none
  reversed : mg "reversed" = none
  range : mg "range" = none
  abs : mg "abs" = none
  sorted : mg "sorted" = none
  min : mg "min" = none
  letters : ∃ t, mg "LETTERS" = some (.str lets t)
  lmost : ∃ t, mg "LABEL_MOST" = some (.int 12 t)
  tmost : ∃ t, mg "TEXT_MOST" = some (.int 65535 t)
theorem tyT {K : PySem.W.Frag} {H : Hp} {p : Addr} {xs : List V} (h : SqT K H p xs) : TyX K H (.ref p) (.type "tuple") := by
  rcases h with (h | ⟨o, h⟩) | ⟨o, its, n, h, c, _⟩
  · exact .base (.tup h)
  · exact .fTuple h
  · exact .kTuple h c
theorem kitTrue {K : PySem.W.Frag} : PySem.W.kitAny K (.type "tuple") [.type "list", .type "tuple"] = some true :=
  kitAny_cons (b := false) (kit_ty (by decide +kernel)) (fun _ => kitAny_cons (b := true) (kit_ty (by decide +kernel)) (fun q => nomatch q) fun _ => rfl) (fun q => nomatch q)
section
variable {Pg : Program} {w : World} {K : PySem.W.Frag} {mg : Str → Option Value} {base : Heap} {P : Addr}
/-! ### is_sequence -/
abbrev sSeq : Stmt := top 10
theorem scSeq : FnScope ["value"] ["value"] (defScope sSeq) := ⟨rfl, rfl, rfl, by decide +kernel, rfl, by decide +kernel, by decide +kernel⟩
def spSeq (K : PySem.W.Frag) (P : Addr) : Sp := Pu P fun vs H R => ∃ (p : Addr) (xs : List V), vs = [.ref p] ∧ SqT K H p xs ∧ R = fun v _ => v = .bl true
theorem ok_seq {f : Addr} {fd : FuncData} (F : Fun K "is_sequence" "is_sequence" sSeq f fd) (T : Tx K mg) : FnOk Pg w K mg base CX0 1 f fd ["value"] (spSeq K P) := by
  refine F.ok scSeq (fun vs H Q E h => ?_) (fun cdv A outer s H vs Q E hr h => ?_)
  · obtain ⟨_, _, ⟨p, xs, rfl, _⟩, _⟩ := h
    rfl
  · obtain ⟨t, _, ⟨p, xs, rfl, hx, rfl⟩, k⟩ := h
    refine ⟨_, pss_one (ps_ret (pe_callB call_isiT (by rfl) T.isi (by decide +kernel) (pa_cons (pv 0) (pa_cons (pe_tup (pa_cons (pe_bltn (v := .ty "list") (by rfl) T.list (by decide +kernel) rfl) (pa_cons (pe_bltn (v := .ty "tuple") (by rfl) T.tuple (by decide +kernel) rfl) pa_nil))) pa_nil)))), ?_⟩
    refine ⟨_, rfl, (by show 2 ≤ sizeLine; decide), fun q hq => ?_⟩
    have s1 : Sm P H (upd H q (.tup [.ty "list", .ty "tuple"])) := Sm.new t hq
    exact ⟨_, q, _, _, _, true, rfl, upd_same, .cons (.ty _) (.cons (.ty _) .nil), tyT (s1.tup t hx), kitTrue, k _ _ s1 rfl⟩
/-! ### is_row_of -/
abbrev sRow : Stmt := top 11
theorem scRow : FnScope ["value", "many"] ["value", "many"] (defScope sRow) := ⟨rfl, rfl, rfl, by decide +kernel, rfl, by decide +kernel, by decide +kernel⟩
def spRow (K : PySem.W.Frag) (P : Addr) : Sp := Pu P fun vs H R => ∃ (p : Addr) (xs : List V) (n : Int), vs = [.ref p, .int n] ∧ SqT K H p xs ∧ R = fun v _ => v = .bl (decide ((xs.length : Int) = n))
theorem ok_row {f fS : Addr} {fd fdS : FuncData} (F : Fun K "is_row_of" "is_row_of" sRow f fd) (T : Tx K mg) (S : Df K mg "is_sequence" sSeq ["value"] fS fdS) : FnOk Pg w K mg base CX0 2 f fd ["value", "many"] (spRow K P) := by
  have GS : FnOk Pg w K mg base CX0 1 fS fdS ["value"] (spSeq K P) := ok_seq S.F T
  refine F.ok scRow (fun vs H Q E h => ?_) (fun cdv A outer s H vs Q E hr h => ?_)
  · obtain ⟨_, _, ⟨p, xs, n, rfl, _⟩, _⟩ := h
    rfl
  · obtain ⟨t, _, ⟨p, xs, n, rfl, hx, rfl⟩, k⟩ := h
    refine ⟨_, pss_one (ps_ret (pe_and (pe_call GS hr (by rfl) S.g S.F.kp S.b .nil pass0 (pa_cons (pv 0) pa_nil)) (pe_one (pe_cmpR op_eq (pe_callB call_len_seq (by rfl) T.len (by decide +kernel) (pa_cons (pv 0) pa_nil)) (pv 1) (nomark _))))), ?_⟩
    refine ⟨_, rfl, t, _, ⟨p, xs, rfl, hx, rfl⟩, fun v H' s1 e => ⟨true, e, ?_⟩⟩
    refine iteT ⟨_, rfl, p, xs, rfl, .inr (s1.tup t hx), _, rfl, rfl, ?_⟩
    refine k _ _ s1 ?_
    show V.bl (decide (V.int (xs.length : Int) = V.int n)) = V.bl (decide ((xs.length : Int) = n))
    by_cases e : (xs.length : Int) = n
    · rw [decide_eq_true e, decide_eq_true (congrArg V.int e)]
    · rw [decide_eq_false e, decide_eq_false (fun q => e (V.int.inj q))]
/-! ### is_number, of an int -/
abbrev sNum : Stmt := top 9
theorem scNum : FnScope ["value"] ["value"] (defScope sNum) := ⟨rfl, rfl, rfl, by decide +kernel, rfl, by decide +kernel, by decide +kernel⟩
def spNum (P : Addr) : Sp := Pu P fun vs H R => ∃ n : Int, vs = [.int n] ∧ R = fun v _ => v = .bl (decide (n ≥ 0))
theorem ok_num {f : Addr} {fd : FuncData} (F : Fun K "is_number" "is_number" sNum f fd) (T : Tx K mg) : FnOk Pg w K mg base CX0 1 f fd ["value"] (spNum P) := by
  refine F.ok scNum (fun vs H Q E h => ?_) (fun cdv A outer s H vs Q E hr h => ?_)
  · obtain ⟨_, _, ⟨n, rfl, _⟩, _⟩ := h
    rfl
  · obtain ⟨t, _, ⟨n, rfl, rfl⟩, k⟩ := h
    refine ⟨_, pss_one (ps_ret (pe_and (pe_callB call_isi (by rfl) T.isi (by decide +kernel) (pa_cons (pv 0) (pa_cons (pe_bltn (v := .ty "int") (by rfl) T.int (by decide +kernel) rfl) pa_nil)))
      (pe_and (pe_not (pe_callB call_isi (by rfl) T.isi (by decide +kernel) (pa_cons (pv 0) (pa_cons (pe_bltn (v := .ty "bool") (by rfl) T.bool (by decide +kernel) rfl) pa_nil)))) (pe_one (pe_cmpR op_ge (pv 0) pe_int (nomark _)))))), ?_⟩
    refine ⟨_, rfl, _, _, _, _, true, rfl, .ty _, .base (.int n), kit_ty (by decide +kernel), true, rfl, iteT ?_⟩
    refine ⟨_, rfl, _, _, _, _, false, rfl, .ty _, .base (.int n), kit_ty (by decide +kernel), false, rfl, true, rfl, iteT ?_⟩
    exact ⟨_, rfl, _, _, rfl, rfl, k _ _ (Sm.refl t) rfl⟩
/-! ### is_text, of a text -/
abbrev sTxt : Stmt := top 13
theorem scTxt : FnScope ["value"] ["value"] (defScope sTxt) := ⟨rfl, rfl, rfl, by decide +kernel, rfl, by decide +kernel, by decide +kernel⟩
def spTxt (P : Addr) : Sp := Pu P fun vs H R => ∃ z : Str, vs = [.str z] ∧ z.length ≤ sizeLine ∧ R = fun v _ => v = .bl (decide ((z.length : Int) ≤ 65535))
theorem ok_txt {f : Addr} {fd : FuncData} (F : Fun K "is_text" "is_text" sTxt f fd) (T : Tx K mg) : FnOk Pg w K mg base CX0 1 f fd ["value"] (spTxt P) := by
  obtain ⟨_, tm⟩ := T.tmost
  refine F.ok scTxt (fun vs H Q E h => ?_) (fun cdv A outer s H vs Q E hr h => ?_)
  · obtain ⟨_, _, ⟨n, rfl, _⟩, _⟩ := h
    rfl
  · obtain ⟨t, _, ⟨z, rfl, hz, rfl⟩, k⟩ := h
    refine ⟨_, pss_one (ps_ret (pe_and (pe_callB call_isi (by rfl) T.isi (by decide +kernel) (pa_cons (pv 0) (pa_cons (pe_bltn (v := .ty "str") (by rfl) T.str (by decide +kernel) rfl) pa_nil)))
      (pe_one (pe_cmpR op_le (pe_callB call_len_str (by rfl) T.len (by decide +kernel) (pa_cons (pv 0) pa_nil)) (pe_glob (v := .int 65535) (by rfl) tm ⟨_, rfl⟩) (nomark _))))), ?_⟩
    refine ⟨_, rfl, _, _, _, _, true, rfl, .ty _, .base (.str z), kit_ty (by decide +kernel), true, rfl, iteT ?_⟩
    exact ⟨_, rfl, z, rfl, hz, _, _, rfl, rfl, k _ _ (Sm.refl t) rfl⟩
/-! ### is_label, of a text -/
abbrev sLab : Stmt := top 12
theorem scLab : FnScope ["value"] ["value"] (defScope sLab) := ⟨rfl, rfl, rfl, by decide +kernel, rfl, by decide +kernel, by decide +kernel⟩
def isLab (z : Str) : Bool := decide ((1 : Int) ≤ (z.length : Int)) && decide ((z.length : Int) ≤ 12) && z.cps.toList.all fun c => decide (c ∈ lets.cps.toList)
def spLab (P : Addr) : Sp := Pu P fun vs H R => ∃ z : Str, vs = [.str z] ∧ z.length ≤ sizeLine ∧ R = fun v _ => v = .bl (isLab z)
theorem ok_lab {f c : Addr} {fd : FuncData} (F : DfC K mg "is_label" sLab ["value"] f fd c) (T : Tx K mg) (TB : GxR.TabB base mg c P) : FnOk Pg w K mg base CX0 1 f fd ["value"] (spLab P) := by
  obtain ⟨_, tm⟩ := T.lmost
  obtain ⟨_, tl⟩ := T.letters
  refine F.ok scLab (fun vs H Q E h => ?_) (fun A outer s H vs Q E hr h => ?_)
  · obtain ⟨_, _, ⟨n, rfl, _⟩, _⟩ := h
    rfl
  · obtain ⟨t, _, ⟨z, rfl, hz, rfl⟩, k⟩ := h
    refine ⟨_, pss_cons (ps_if (PW.pt (pw_or (pt_not (pt_val (pe_callB call_isi (by rfl) T.isi (by decide +kernel) (pa_cons (pv 0) (pa_cons (pe_bltn (v := .ty "str") (by rfl) T.str (by decide +kernel) rfl) pa_nil)))))
        (pw_or1 (pt_not (pt_chain op_le op_le pe_int (pe_callB call_len_str (by rfl) T.len (by decide +kernel) (pa_cons (pv 0) pa_nil)) (pe_glob (v := .int 12) (by rfl) tm ⟨_, rfl⟩))))))
        (pss_one (ps_ret pe_bl)) pss_nil)
      (pss_one (ps_ret (SoGx.pe_allG (c := c) (P := P) (pb := fun c => decide (c ∈ lets.cps.toList)) hr (by rfl) T.all (by decide +kernel) TB rfl ⟨rfl, rfl, by decide +kernel, rfl, rfl, fun y hy e => False.elim (by revert hy e; revert y; decide +kernel)⟩ (pv 0) (SoGx.elt_in rfl rfl rfl tl) (fun _ => rfl)))), ?_⟩
    have key : ∀ b : Bool, b = isLab z → ∀ H', Sm P H H' → Q (.bl b) H' := fun b e H' s1 => k _ _ s1 (congrArg V.bl e)
    refine ⟨_, rfl, _, _, _, _, true, rfl, .ty _, .base (.str z), kit_ty (by decide +kernel), true, rfl, iteF ?_⟩
    refine ⟨_, rfl, z, rfl, hz, _, _, rfl, rfl, _, rfl, ?_⟩
    refine ite2 (fun h1 => ?_) (fun h1 => ?_)
    · refine ⟨_, _, rfl, rfl, _, rfl, ?_⟩
      by_cases h2 : (z.length : Int) ≤ 12
      · rw [decide_eq_true h2]
        refine iteF ?_
        refine ⟨_, rfl, z, rfl, t, fun H2 hT => key _ ?_ H2 (Sm.of_tabbed hT)⟩
        unfold isLab
        rw [h1, decide_eq_true h2]
        rfl
      · rw [decide_eq_false h2]
        refine iteT ?_
        refine key _ ?_ H (Sm.refl t)
        unfold isLab
        rw [decide_eq_false h2, Bool.and_false, Bool.false_and]
    · refine ⟨false, rfl, iteT ?_⟩
      refine key _ ?_ H (Sm.refl t)
      unfold isLab
      have e1 : decide ((1 : Int) ≤ (z.length : Int)) = false := Bool.eq_false_iff.mpr h1
      rw [e1, Bool.false_and, Bool.false_and]
end
end K6

set_option maxRecDepth 100000
set_option maxHeartbeats 4000000
namespace K6
open PySem PySem.Spec PyProof.Rows L2 So
/-- a sign -/
inductive Sg where
  | op (l : Str) | tx (t : Str) | cl
  deriving DecidableEq
def Sg.vs : Sg → List V
  | .op l => [.str "open", .str l]
  | .tx t => [.str "text", .str t]
  | .cl => [.str "close"]
def Sg.ok : Sg → Bool
  | .op l => isLab l && decide (l.length ≤ 12)
  | .tx t => decide (t.length ≤ 65535)
  | .cl => true
theorem sz12 {n : Nat} (h : n ≤ 12) : n ≤ sizeLine := Nat.le_trans h (by decide)
theorem sz65 {n : Nat} (h : n ≤ 65535) : n ≤ sizeLine := Nat.le_trans h (by decide)
theorem dstr {a b : Str} (h : decide (a = b) = false) : decide (V.str a = V.str b) = false := decide_eq_false fun q => of_decide_eq_false h (V.str.inj q)
section
variable {Pg : Program} {w : World} {K : PySem.W.Frag} {mg : Str → Option Value} {base : Heap} {P : Addr}
/-! ### _sign_fault, of a sign -/
abbrev sFau : Stmt := top 15
theorem scFau : FnScope ["value"] ["value"] (defScope sFau) := ⟨rfl, rfl, rfl, by decide +kernel, rfl, by decide +kernel, by decide +kernel⟩
def spFau (K : PySem.W.Frag) (P : Addr) : Sp := Pu P fun vs H R => ∃ (p : Addr) (g : Sg), vs = [.ref p] ∧ SqT K H p g.vs ∧ g.ok = true ∧ R = fun v _ => v = .non
theorem ok_fau {f fS fL fT c : Addr} {fd fdS fdL fdT : FuncData} (F : Fun K "_sign_fault" "_sign_fault" sFau f fd) (T : Tx K mg) (TB : GxR.TabB base mg c P)
    (S : Df K mg "is_sequence" sSeq ["value"] fS fdS) (L : DfC K mg "is_label" sLab ["value"] fL fdL c) (X : Df K mg "is_text" sTxt ["value"] fT fdT) : FnOk Pg w K mg base CX0 2 f fd ["value"] (spFau K P) := by
  have GS : FnOk Pg w K mg base CX0 1 fS fdS ["value"] (spSeq K P) := ok_seq S.F T
  have GL : FnOk Pg w K mg base CX0 1 fL fdL ["value"] (spLab P) := ok_lab L T TB
  have GX : FnOk Pg w K mg base CX0 1 fT fdT ["value"] (spTxt P) := ok_txt X.F T
  refine F.ok scFau (fun vs H Q E h => ?_) (fun cdv A outer s H vs Q E hr h => ?_)
  · obtain ⟨_, _, ⟨n, _, rfl, _⟩, _⟩ := h
    rfl
  · obtain ⟨t, _, ⟨p, g, rfl, hp, hg, rfl⟩, k⟩ := h
    refine ⟨_, pss_cons (ps_if (PW.pt (pw_or (pt_not (pt_val (pe_call GS hr (by rfl) S.g S.F.kp S.b .nil pass0 (pa_cons (pv 0) pa_nil)))) (pw_or1 (pt_cmpR op_eq (pe_callB call_len_seq (by rfl) T.len (by decide +kernel) (pa_cons (pv 0) pa_nil)) pe_int (nomark _)))))
        (pss_one (ps_ret (pe_un un_neg pe_int))) pss_nil)
      (pss_cons (ps_if (PW.pt (pw_and (pt_cmpR op_eq (pe_ix ix_tup (pv 0) pe_int (fun _ _ => rfl)) pe_str (nomark _)) (pw_and1 (pt_cmpR op_eq (pe_callB call_len_seq (by rfl) T.len (by decide +kernel) (pa_cons (pv 0) pa_nil)) pe_int (nomark _)))))
        (pss_one (ps_ret pe_non)) pss_nil)
      (pss_cons (ps_if (pt_cmpR op_ne (pe_callB call_len_seq (by rfl) T.len (by decide +kernel) (pa_cons (pv 0) pa_nil)) pe_int (nomark _)) (pss_one (ps_ret (pe_un un_neg pe_int))) pss_nil)
      (pss_cons (ps_if (pt_cmpR op_eq (pe_ix ix_tup (pv 0) pe_int (fun _ _ => rfl)) pe_str (nomark _))
        (pss_one (ps_ret (pe_ifExp (pt_val (pe_call GL hr (by rfl) L.g L.kp L.b .nil pass0 (pa_cons (pe_ix ix_tup (pv 0) pe_int (fun _ _ => rfl)) pa_nil))) pe_non pe_int))) pss_nil)
      (pss_cons (ps_if (pt_cmpR op_eq (pe_ix ix_tup (pv 0) pe_int (fun _ _ => rfl)) pe_str (nomark _))
        (pss_one (ps_ret (pe_ifExp (pt_val (pe_call GX hr (by rfl) X.g X.F.kp X.b .nil pass0 (pa_cons (pe_ix ix_tup (pv 0) pe_int (fun _ _ => rfl)) pa_nil))) pe_non pe_int))) pss_nil)
      (pss_one (ps_ret (pe_un un_neg pe_int))))))), ?_⟩
    refine ⟨_, rfl, t, _, ⟨p, _, rfl, hp, rfl⟩, fun v H1 s1 e => ⟨true, e, iteF ?_⟩⟩
    have h1 : SqT K H1 p g.vs := s1.tup t hp
    cases g with
    | cl =>
      refine ⟨_, rfl, p, _, rfl, .inr h1, rfl, _, rfl, iteF ?_⟩
      refine ⟨_, rfl, p, _, _, _, rfl, rfl, h1, atI_nat (j := 0) rfl, rfl, _, rfl, ?_⟩
      refine iteT ⟨_, rfl, p, _, rfl, .inr h1, rfl, _, rfl, iteT ?_⟩
      exact k _ _ s1 rfl
    | op l =>
      have hl : isLab l = true ∧ l.length ≤ 12 := by
        have q : (isLab l && decide (l.length ≤ 12)) = true := hg
        rw [Bool.and_eq_true] at q
        exact ⟨q.1, of_decide_eq_true q.2⟩
      refine ⟨_, rfl, p, _, rfl, .inr h1, rfl, _, rfl, iteF ?_⟩
      refine ⟨_, rfl, p, _, _, _, rfl, rfl, h1, atI_nat (j := 0) rfl, rfl, _, rfl, ?_⟩
      rw [dstr (by decide +kernel)]
      refine iteF (iteF ?_)
      refine ⟨_, rfl, p, _, rfl, .inr h1, rfl, _, rfl, iteF ?_⟩
      refine ⟨_, rfl, p, _, _, _, rfl, rfl, h1, atI_nat (j := 0) rfl, rfl, _, rfl, iteT ?_⟩
      refine ⟨_, rfl, p, _, _, _, rfl, rfl, h1, atI_nat (j := 1) rfl, s1.2, _, ⟨l, rfl, sz12 hl.2, rfl⟩, fun v H2 s2 e2 => ⟨true, by rw [e2, hl.1], iteT ?_⟩⟩
      exact k _ _ (s1.trans s2) rfl
    | tx z =>
      have hz : z.length ≤ 65535 := of_decide_eq_true hg
      refine ⟨_, rfl, p, _, rfl, .inr h1, rfl, _, rfl, iteF ?_⟩
      refine ⟨_, rfl, p, _, _, _, rfl, rfl, h1, atI_nat (j := 0) rfl, rfl, _, rfl, ?_⟩
      rw [dstr (by decide +kernel)]
      refine iteF (iteF ?_)
      refine ⟨_, rfl, p, _, rfl, .inr h1, rfl, _, rfl, iteF ?_⟩
      refine ⟨_, rfl, p, _, _, _, rfl, rfl, h1, atI_nat (j := 0) rfl, rfl, _, rfl, ?_⟩
      rw [dstr (by decide +kernel)]
      refine iteF ?_
      refine ⟨_, rfl, p, _, _, _, rfl, rfl, h1, atI_nat (j := 0) rfl, rfl, _, rfl, iteT ?_⟩
      refine ⟨_, rfl, p, _, _, _, rfl, rfl, h1, atI_nat (j := 1) rfl, s1.2, _, ⟨z, rfl, sz65 hz, rfl⟩, fun v H2 s2 e2 => ⟨true, by rw [e2, decide_eq_true (by omega)], iteT ?_⟩⟩
      exact k _ _ (s1.trans s2) rfl
/-! ### is_sign, of a sign -/
abbrev sSgn : Stmt := top 16
theorem scSgn : FnScope ["value"] ["value"] (defScope sSgn) := ⟨rfl, rfl, rfl, by decide +kernel, rfl, by decide +kernel, by decide +kernel⟩
def spSgn (K : PySem.W.Frag) (P : Addr) : Sp := Pu P fun vs H R => ∃ (p : Addr) (g : Sg), vs = [.ref p] ∧ SqT K H p g.vs ∧ g.ok = true ∧ R = fun v _ => v = .bl true
theorem ok_sgn {f fF : Addr} {fd fdF : FuncData} (F : Fun K "is_sign" "is_sign" sSgn f fd) (D : Df K mg "_sign_fault" sFau ["value"] fF fdF) (G : FnOk Pg w K mg base CX0 2 fF fdF ["value"] (spFau K P)) : FnOk Pg w K mg base CX0 3 f fd ["value"] (spSgn K P) := by
  refine F.ok scSgn (fun vs H Q E h => ?_) (fun cdv A outer s H vs Q E hr h => ?_)
  · obtain ⟨_, _, ⟨n, _, rfl, _⟩, _⟩ := h
    rfl
  · obtain ⟨t, _, ⟨p, g, rfl, hp, hg, rfl⟩, k⟩ := h
    refine ⟨_, pss_one (ps_ret (pe_cmpR op_isN (pe_call G hr (by rfl) D.g D.F.kp D.b .nil pass0 (pa_cons (pv 0) pa_nil)) pe_non (nomark _))), ?_⟩
    refine ⟨_, rfl, t, _, ⟨p, g, rfl, hp, hg, rfl⟩, fun v H1 s1 e => ⟨rfl, ?_⟩⟩
    exact k _ _ s1 (by rw [e]; rfl)
end
end K6

set_option maxRecDepth 100000
set_option maxHeartbeats 4000000
namespace K6
open PySem PySem.Spec PyProof.Rows L2 So
/-! ### a row of signs -/
def Sg.d : Sg → Int
  | .op _ => 1
  | .tx _ => 0
  | .cl => -1
def lev : List Sg → Nat → Int → Sum Nat Int
  | [], _, l => .inr l
  | g :: r, i, l => if l + g.d < 0 then .inl i else lev r (i + 1) (l + g.d)
def SgV (K : PySem.W.Frag) (H : Hp) (v : V) (g : Sg) : Prop := ∃ q, v = .ref q ∧ SqT K H q g.vs
def RowAt (K : PySem.W.Frag) (H : Hp) (p : Addr) (xs : List V) (gs : List Sg) : Prop := SqT K H p xs ∧ Paired (SgV K H) xs gs ∧ gs.all Sg.ok = true ∧ gs.length ≤ 100000
theorem paired_get {α β : Type} {R : α → β → Prop} : ∀ {xs : List α} {ys : List β} {i : Nat} {x : α}, Paired R xs ys → xs[i]? = some x → ∃ y, ys[i]? = some y ∧ R x y
  | _, _, _, _, .nil, e => by simp at e
  | _, _, 0, _, .cons r _, e => by
    simp at e
    subst e
    exact ⟨_, rfl, r⟩
  | _, _, i + 1, x, .cons _ t, e => by
    obtain ⟨y, h1, h2⟩ := paired_get (i := i) (x := x) t (by simpa using e)
    exact ⟨y, by simpa using h1, h2⟩
theorem paired_mono {α β : Type} {R R' : α → β → Prop} (h : ∀ x y, R x y → R' x y) : ∀ {xs : List α} {ys : List β}, Paired R xs ys → Paired R' xs ys
  | _, _, .nil => .nil
  | _, _, .cons r t => .cons (h _ _ r) (paired_mono h t)
theorem sgs_mono {K : PySem.W.Frag} {P : Addr} {H H' : Hp} (t : GxR.TabG H P) (s : Sm P H H') {xs : List V} {gs : List Sg} (h : Paired (SgV K H) xs gs) : Paired (SgV K H') xs gs :=
  paired_mono (fun _ _ ⟨q, e, h⟩ => ⟨q, e, s.tup t h⟩) h
theorem RowAt.mono {K : PySem.W.Frag} {P : Addr} {H H' : Hp} {p : Addr} {xs : List V} {gs : List Sg} (t : GxR.TabG H P) (s : Sm P H H') (h : RowAt K H p xs gs) : RowAt K H' p xs gs :=
  ⟨s.tup t h.1, sgs_mono t s h.2.1, h.2.2⟩
theorem all_get {gs : List Sg} {i : Nat} {g : Sg} (h : gs.all Sg.ok = true) (e : gs[i]? = some g) : g.ok = true := List.all_eq_true.mp h g (List.mem_of_getElem? e)
theorem take_snoc {α : Type} {l : List α} {i : Nat} {x : α} (h : l[i]? = some x) : l.take (i + 1) = l.take i ++ [x] := by
  rw [List.take_add_one, h]
  rfl
theorem drop_at {α : Type} {l : List α} {i : Nat} {x : α} (h : l[i]? = some x) : l.drop i = x :: l.drop (i + 1) := by
  have hl := (List.getElem?_eq_some_iff.mp h)
  obtain ⟨h1, h2⟩ := hl
  rw [List.drop_eq_getElem_cons h1, h2]
theorem lev_at {gs : List Sg} {i : Nat} {g : Sg} {l : Int} (h : gs[i]? = some g) : lev (gs.drop i) i l = if l + g.d < 0 then .inl i else lev (gs.drop (i + 1)) (i + 1) (l + g.d) := by
  rw [drop_at h]
  rfl
/-- an error's own dict -/
def Xd (H : Hp) (d : Addr) (v : V) : Prop := H d = some (.xd [(("at" : Str), v)])
/-- what stands of the class BadStream -/
structure BS (K : PySem.W.Frag) (mg : Str → Option Value) (C fI : Addr) (fdI : FuncData) : Prop where
  T : OexC K C
  na : PySem.W.findIn K (.ref C) "at" = some none
  ini : PySem.W.findIn K (.ref C) "__init__" = some (some (.ref fI))
  ty : PySem.W.typeIn K (.ref fI) = some (.type "function")
  F : Fun K "__init__" "BadStream.__init__" (inClass (top 3) 0) fI fdI
  b : Binds K fdI ["self", "at"] []
  g : mg "BadStream" = some (.ref C)
  te : PySem.W.exmOne K (.ref C) (.ref C) = some true
section
variable {Pg : Program} {w : World} {K : PySem.W.Frag} {mg : Str → Option Value} {base : Heap} {P : Addr}
/-! ### BadStream.__init__ -/
abbrev sIni : Stmt := inClass (top 3) 0
theorem scIni : FnScope ["self", "at"] ["self", "at"] (defScope sIni) := ⟨rfl, rfl, rfl, by decide +kernel, rfl, by decide +kernel, by decide +kernel⟩
def spIni (K : PySem.W.Frag) (C : Addr) : Sp := fun vs H Q _ => ∃ (a : Addr) (v : V), vs = [.ref a, v] ∧ H a = some (exo a C none) ∧ ∀ dx, H dx = none → dx ≠ a → Q .non (upd (upd H dx (exd dx [("at", v)])) a (exo a C (some dx)))
theorem ok_ini {C fI : Addr} {fdI : FuncData} (B : BS K mg C fI fdI) : FnOk Pg w K mg base CX0 1 fI fdI ["self", "at"] (spIni K C) := by
  refine B.F.ok scIni (fun vs H Q E h => ?_) (fun cdv A outer s H vs Q E hr h => ?_)
  · obtain ⟨a, v, rfl, _⟩ := h
    rfl
  · obtain ⟨a, v, rfl, ha, k⟩ := h
    refine ⟨_, pss_one (ps_ost (pv 0) (pv 1)), ?_⟩
    exact ⟨_, rfl, _, rfl, a, C, rfl, B.T, B.na, .inl ⟨ha, fun dx n ne => k dx n ne⟩⟩
/-- the heap behind a raise -/
theorem raised {C : Addr} {H : Hp} {v : V} {a dx : Addr} (t : GxR.TabG H P) (ha : H a = none) (hd : H dx = none) (ne : dx ≠ a) :
    Sm P H (upd (del (upd (upd (upd H a (exo a C none)) dx (exd dx [(("at" : Str), v)])) a (exo a C (some dx))) a) dx (.xd [(("at" : Str), v)])) := by
  have key : ∀ b, b ≠ a → b ≠ dx → upd (del (upd (upd (upd H a (exo a C none)) dx (exd dx [(("at" : Str), v)])) a (exo a C (some dx))) a) dx (.xd [(("at" : Str), v)]) b = H b := fun b h1 h2 => by
    rw [upd_ne h2, del_ne h1, upd_ne h1, upd_ne h2, upd_ne h1]
  obtain ⟨ps, e, r⟩ := t
  refine ⟨fun b o _ hb => ?_, ps, ?_, r⟩
  · rw [key b (ne_of_none hb ha) (ne_of_none hb hd)]
    exact hb
  · rw [key P (ne_of_none e ha) (ne_of_none e hd)]
    exact e
/-! ### _step_of -/
abbrev sStp : Stmt := top 19
theorem scStp : FnScope ["sign"] ["sign"] (defScope sStp) := ⟨rfl, rfl, rfl, by decide +kernel, rfl, by decide +kernel, by decide +kernel⟩
def spStp (K : PySem.W.Frag) (P : Addr) : Sp := Pu P fun vs H R => ∃ (p : Addr) (g : Sg), vs = [.ref p] ∧ SqT K H p g.vs ∧ R = fun v _ => v = .int g.d
theorem ok_stp {f : Addr} {fd : FuncData} (F : Fun K "_step_of" "_step_of" sStp f fd) : FnOk Pg w K mg base CX0 1 f fd ["sign"] (spStp K P) := by
  refine F.ok scStp (fun vs H Q E h => ?_) (fun cdv A outer s H vs Q E hr h => ?_)
  · obtain ⟨_, _, ⟨n, _, rfl, _⟩, _⟩ := h
    rfl
  · obtain ⟨t, _, ⟨p, g, rfl, hp, rfl⟩, k⟩ := h
    refine ⟨_, pss_cons (ps_if (pt_cmpR op_eq (pe_ix ix_tup (pv 0) pe_int (fun _ _ => rfl)) pe_str (nomark _)) (pss_one (ps_ret pe_int)) pss_nil)
      (pss_one (ps_ret (pe_ifExp (pt_cmpR op_eq (pe_ix ix_tup (pv 0) pe_int (fun _ _ => rfl)) pe_str (nomark _)) (pe_un un_neg pe_int) pe_int))), ?_⟩
    have s0 := Sm.refl t
    cases g with
    | op l =>
      refine ⟨_, rfl, p, _, _, _, rfl, rfl, hp, atI_nat (j := 0) rfl, rfl, _, rfl, iteT ?_⟩
      exact k _ _ s0 rfl
    | tx z =>
      refine ⟨_, rfl, p, _, _, _, rfl, rfl, hp, atI_nat (j := 0) rfl, rfl, _, rfl, ?_⟩
      rw [dstr (by decide +kernel)]
      refine iteF ?_
      refine ⟨_, rfl, p, _, _, _, rfl, rfl, hp, atI_nat (j := 0) rfl, rfl, _, rfl, ?_⟩
      rw [dstr (by decide +kernel)]
      refine iteF ?_
      exact k _ _ s0 rfl
    | cl =>
      refine ⟨_, rfl, p, _, _, _, rfl, rfl, hp, atI_nat (j := 0) rfl, rfl, _, rfl, ?_⟩
      rw [dstr (by decide +kernel)]
      refine iteF ?_
      refine ⟨_, rfl, p, _, _, _, rfl, rfl, hp, atI_nat (j := 0) rfl, rfl, _, rfl, iteT ?_⟩
      exact ⟨1, rfl, k _ _ s0 rfl⟩
/-! ### read_levels -/
abbrev sRdl : Stmt := top 18
theorem scRdl : FnScope ["value", "ahead", "signs", "level", "at", "sign"] ["value", "ahead"] (defScope sRdl) := ⟨rfl, rfl, rfl, by decide +kernel, rfl, by decide +kernel, by decide +kernel⟩
def spRdl (K : PySem.W.Frag) (P C : Addr) : Sp := fun vs H Q E => GxR.TabG H P ∧ ∃ (p : Addr) (xs : List V) (gs : List Sg) (n : Int), vs = [.ref p, .int n] ∧ RowAt K H p xs gs ∧
  (match lev gs 0 n with
   | .inl i => ∀ d H', Sm P H H' → Xd H' d (.int i) → E (.ref C) (some d) H'
   | .inr l => ∀ r q H', Sm P H H' → H' r = some (.tup [.ref q, .int l]) → H' q = some (.tup xs) → Q (.ref r) H')
theorem ok_rdl {f fS fG fT C fI : Addr} {fd fdS fdG fdT fdI : FuncData} (F : Fun K "read_levels" "read_levels" sRdl f fd) (T : Tx K mg) (B : BS K mg C fI fdI)
    (S : Df K mg "is_sequence" sSeq ["value"] fS fdS) (G : Df K mg "is_sign" sSgn ["value"] fG fdG) (GG : FnOk Pg w K mg base CX0 3 fG fdG ["value"] (spSgn K P)) (D : Df K mg "_step_of" sStp ["sign"] fT fdT) :
    FnOk Pg w K mg base (L2.CX Pg w) 4 f fd ["value", "ahead"] (spRdl K P C) := by
  have GS : FnOk Pg w K mg base CX0 1 fS fdS ["value"] (spSeq K P) := ok_seq S.F T
  have GD : FnOk Pg w K mg base CX0 1 fT fdT ["sign"] (spStp K P) := ok_stp D.F
  have GI : FnOk Pg w K mg base CX0 1 fI fdI ["self", "at"] (spIni K C) := ok_ini B
  refine F.okX scRdl (fun vs H Q E h => ?_) (fun cdv A outer s H vs Q E hr h => ?_)
  · obtain ⟨_, _, _, _, _, rfl, _⟩ := h
    rfl
  · obtain ⟨t, p, xs, gs, n, rfl, hR, k⟩ := h
    have hr1 : Room 1 _ := hr.mono (by decide)
    have hr2 : Room 2 _ := hr.mono (by decide)
    refine ⟨_, pss_cons (ps_if (pt_not (pt_val (pe_call GS hr1 (by rfl) S.g S.F.kp S.b .nil pass0 (pa_cons (pv 0) pa_nil)))) pss_never pss_nil)
      (pss_cons (ps_set (i := 2) scRdl.nd rfl (Or.inl rfl) (pe_lst pa_nil))
      (pss_cons (ps_set (i := 3) scRdl.nd rfl (Or.inl rfl) (pv 1))
      (pss_cons (ps_for (passes_of rfl) rfl (SoE.pi_enumT (by rfl) T.enumerate (pa_cons (pv 0) pa_nil)) (pg_tup rfl (pgs_cons (pg_name (i := 4) scRdl.nd rfl (.inl rfl)) (pgs_cons (pg_name (i := 5) scRdl.nd rfl (.inl rfl)) pgs_nil)))
        (pss_cons (ps_if (pt_not (pt_val (pe_call GG hr (by rfl) G.g G.F.kp G.b .nil pass0 (pa_cons (pv 5) pa_nil)))) pss_never pss_nil)
        (pss_cons (ps_aug (i := 3) scRdl.nd rfl (.inl rfl) (pe_call GD hr1 (by rfl) D.g D.F.kp D.b .nil pass0 (pa_cons (pv 5) pa_nil)) ip_add)
        (pss_cons (ps_if (pt_cmpR op_lt (pv 3) pe_int (nomark _)) (pss_one (ps_raise rfl (takes_of rfl rfl rfl rfl) (pmk_oex B.T B.ini B.ty GI hr2 B.b .nil pass0 (by rfl) B.g (pa_cons (pv 4) pa_nil)))) pss_nil)
        (pss_one (ps_expr (pe_bm PySem.F.plainAttrs_list PySem.F.slot_list_append PySem.F.type_list_append mt_append (pv 2) (pa_cons (pe_tupleOf (by rfl) T.tuple (pv 5)) pa_nil))))))))
      (pss_one (ps_ret (pe_tup (pa_cons (pe_tupleOf (by rfl) T.tuple (pv 2)) (pa_cons (pv 3) pa_nil)))))))), ?_⟩
    obtain ⟨hx, hg, hok, hlen⟩ := _root_.id hR
    have lx : xs.length = gs.length := Paired.length hg
    refine ⟨_, rfl, t, _, ⟨p, xs, rfl, hx, rfl⟩, fun v H1 s1 e => ⟨true, e, iteF ?_⟩⟩
    refine ⟨Nat.zero_le _, fun l hl => ?_⟩
    have l0 : H l = none := s1.free t hl
    have lP : l ≠ P := fun z => by
      obtain ⟨ps, q, _⟩ := s1.2
      rw [z, q] at hl
      cases hl
    have s2 : Sm P H (upd H1 l (.lst [])) := s1.mut l0 lP
    refine ⟨_, rfl, ?_⟩
    refine ⟨_, rfl, p, xs, rfl, s2.tup t hx, for_it SoE.walk_enumT (fun i σ H' => ∃ (lv : Int) (v4 v5 : Option V), σ = [some (.ref p), some (.int n), some (.ref l), some (.int lv), v4, v5] ∧
      Sm P H H' ∧ H' l = some (.lst (xs.take i)) ∧ lev gs 0 n = lev (gs.drop i) i lv) ⟨n, none, none, rfl, s2, upd_same, rfl⟩ (fun i σ H' _ ⟨_, _, _, _, s3, _⟩ => s3.tup t hx) ?_ ?_⟩
    · rintro i y σ Ha Hb hi ⟨lv, v4, v5, rfl, s3, hl3, hlev⟩ ⟨T1, x1, x, rfl, hT, rfl, e1, hxi⟩
      cases e1
      obtain ⟨g, hgi, q, rfl, hq⟩ := paired_get hg hxi
      have gok : g.ok = true := all_get hok hgi
      have s4 : Sm P H (upd Ha T1 (.tup [.int (i : Nat), .ref q])) := s3.trans (Sm.new s3.2 hT)
      refine ⟨T1, _, rfl, .inl (.inl upd_same), rfl, _, _, rfl, _, _, rfl, rfl, ?_⟩
      refine ⟨_, rfl, s4.2, _, ⟨q, g, rfl, s4.tup t hq, gok, rfl⟩, fun v H5 s5 e => ⟨true, e, iteF ?_⟩⟩
      have s6 : Sm P H H5 := s4.trans s5
      refine ⟨_, rfl, _, rfl, s6.2, _, ⟨q, g, rfl, s6.tup t hq, rfl⟩, fun v H7 s7 e => ?_⟩
      subst e
      have s8 : Sm P H H7 := s6.trans s7
      refine ⟨_, _, rfl, rfl, ?_⟩
      refine ⟨_, rfl, _, _, rfl, rfl, _, rfl, ?_⟩
      rw [lev_at hgi] at hlev
      by_cases neg : lv + g.d < 0
      · rw [decide_eq_true neg]
        rw [if_pos neg] at hlev
        rw [hlev] at k
        refine iteT ⟨_, rfl, (by show 1 ≤ 1000; decide), fun a ha => ⟨a, _, rfl, upd_same, fun dx n1 n2 => ⟨rfl, dx, [(("at" : Str), V.int (i : Nat))], upd_same, ?_, ?_, ?_⟩⟩⟩
        · rw [upd_ne n2, upd_same]
        · rw [upd_ne n2] at n1
          exact n1
        · rw [upd_ne n2] at n1
          exact k dx _ (s8.trans (raised s8.2 ha n1 n2)) upd_same
      · rw [decide_eq_false neg]
        rw [if_neg neg] at hlev
        have lT : l ≠ T1 := ne_of_none hl3 hT
        have hl4 : upd Ha T1 (.tup [.int (i : Nat), .ref q]) l = some (.lst (xs.take i)) := by
          rw [upd_ne lT]
          exact hl3
        have hl7 : H7 l = some (.lst (xs.take i)) := s7.atL s6.2 (s5.atL s4.2 hl4)
        refine iteF ⟨_, rfl, .inl ⟨rfl, _, SqL.of hl7⟩, _, rfl, .inr ⟨q, _, rfl, s8.tup t hq, ?_⟩⟩
        refine ⟨l, _, _, rfl, rfl, hl7, ?_, ?_⟩
        · have : (xs.take i).length ≤ xs.length := by
            rw [List.length_take]
            omega
          exact Nat.lt_of_le_of_lt (Nat.le_trans this (by rw [lx]; exact hlen)) (by decide)
        · refine ⟨lv + g.d, _, _, rfl, s8.mut l0 lP, ?_, hlev⟩
          rw [upd_same, take_snoc hxi]
    · rintro σ Ha ⟨lv, v4, v5, rfl, s3, hl3, hlev⟩
      rw [lx, List.drop_length] at hlev
      rw [hlev] at k
      rw [List.take_length] at hl3
      refine ⟨_, rfl, .inl ⟨l, _, rfl, SqL.of hl3, fun q hq => ?_⟩⟩
      refine ⟨_, rfl, (by show 2 ≤ sizeLine; decide), fun r hr => ?_⟩
      have q5 : Sm P H (upd Ha q (.tup xs)) := s3.trans (Sm.new s3.2 hq)
      refine k r q _ (q5.trans (Sm.new q5.2 hr)) upd_same ?_
      rw [upd_ne (ne_of_none upd_same hr), upd_same]
end
end K6

set_option maxRecDepth 100000
set_option maxHeartbeats 4000000
namespace K6
open PySem PySem.Spec PyProof.Rows L2 So
/-- the error at place i is wished for -/
def Rz (P C : Addr) (H : Hp) (E : XK) (i : Nat) : Prop := ∀ d H', Sm P H H' → Xd H' d (.int i) → E (.ref C) (some d) H'
theorem Rz.later {P C : Addr} {H H1 : Hp} {E : XK} {i : Nat} (s : Sm P H H1) (r : Rz P C H E i) : Rz P C H1 E i := fun d H' q x => r d H' (s.trans q) x
def isEnd (n : Int) (gs : List Sg) : Bool := match lev gs 0 n with
  | .inl _ => false
  | .inr l => !decide (l > 0)
section
variable {Pg : Program} {w : World} {K : PySem.W.Frag} {mg : Str → Option Value} {base : Heap} {P : Addr}
/-! ### _read_whole -/
abbrev sRwh : Stmt := top 20
theorem scRwh : FnScope ["value", "ahead", "signs", "level"] ["value", "ahead"] (defScope sRwh) := ⟨rfl, rfl, rfl, by decide +kernel, rfl, by decide +kernel, by decide +kernel⟩
def wish (P C : Addr) (H : Hp) (E : XK) (gs : List Sg) (n : Int) (k : Prop) : Prop :=
  match lev gs 0 n with
  | .inl i => Rz P C H E i
  | .inr l => if l > 0 then Rz P C H E gs.length else k
def spRwh (K : PySem.W.Frag) (P C : Addr) : Sp := fun vs H Q E => GxR.TabG H P ∧ ∃ (p : Addr) (xs : List V) (gs : List Sg) (n : Int), vs = [.ref p, .int n] ∧ RowAt K H p xs gs ∧
  wish P C H E gs n (∀ q H', Sm P H H' → H' q = some (.tup xs) → Q (.ref q) H')
theorem ok_rwh {f fR C fI : Addr} {fd fdR fdI : FuncData} (F : Fun K "_read_whole" "_read_whole" sRwh f fd) (T : Tx K mg) (B : BS K mg C fI fdI)
    (R : Df K mg "read_levels" sRdl ["value", "ahead"] fR fdR) (GR : FnOk Pg w K mg base (L2.CX Pg w) 4 fR fdR ["value", "ahead"] (spRdl K P C)) :
    FnOk Pg w K mg base (L2.CX Pg w) 5 f fd ["value", "ahead"] (spRwh K P C) := by
  have GI : FnOk Pg w K mg base CX0 1 fI fdI ["self", "at"] (spIni K C) := ok_ini B
  refine F.okX scRwh (fun vs H Q E h => ?_) (fun cdv A outer s H vs Q E hr h => ?_)
  · obtain ⟨_, _, _, _, _, rfl, _⟩ := h
    rfl
  · obtain ⟨t, p, xs, gs, n, rfl, hR, k⟩ := h
    have hr2 : Room 2 _ := hr.mono (by decide)
    refine ⟨_, pss_cons (ps_asg (pe_call GR hr (by rfl) R.g R.F.kp R.b .nil (passes_call (takes_of rfl rfl rfl rfl) fun _ _ _ _ h => h) (pa_cons (pv 0) (pa_cons (pv 1) pa_nil))) (pg_tup rfl (pgs_cons (pg_name (i := 2) scRwh.nd rfl (.inl rfl)) (pgs_cons (pg_name (i := 3) scRwh.nd rfl (.inl rfl)) pgs_nil))))
      (pss_cons (ps_if (pt_cmpR op_gt (pv 3) pe_int (nomark _)) (pss_one (ps_raise rfl (takes_of rfl rfl rfl rfl) (pmk_oex B.T B.ini B.ty GI hr2 B.b .nil pass0 (by rfl) B.g (pa_cons (pe_callB call_len_seq (by rfl) T.len (by decide +kernel) (pa_cons (pv 2) pa_nil)) pa_nil)))) pss_nil)
      (pss_one (ps_ret (pv 2)))), ?_⟩
    have lx : xs.length = gs.length := Paired.length hR.2.1
    refine ⟨_, rfl, _, rfl, t, p, xs, gs, n, rfl, hR, ?_⟩
    unfold wish at k
    cases hl : lev gs 0 n with
    | inl i =>
      rw [hl] at k
      exact k
    | inr l =>
      rw [hl] at k
      intro r q H1 s1 e1 e2
      refine ⟨r, _, rfl, .inl (.inl e1), rfl, _, _, rfl, _, _, rfl, rfl, ?_⟩
      refine ⟨_, rfl, _, _, rfl, rfl, _, rfl, ?_⟩
      refine ite2 (fun pos => ?_) (fun neg => ?_)
      · have pos' : l > 0 := of_decide_eq_true pos
        have k' : Rz P C H E gs.length := by
          have k2 : if l > 0 then Rz P C H E gs.length else _ := k
          rw [if_pos pos'] at k2
          exact k2
        refine ⟨_, rfl, q, xs, rfl, .inr (.inl (.inl e2)), (by show 1 ≤ 1000; decide), fun a ha => ⟨a, _, rfl, upd_same, fun dx n1 n2 => ⟨rfl, dx, [(("at" : Str), V.int (xs.length : Nat))], upd_same, ?_, ?_, ?_⟩⟩⟩
        · rw [upd_ne n2, upd_same]
        · rw [upd_ne n2] at n1
          exact n1
        · rw [upd_ne n2] at n1
          exact k' dx _ (s1.trans (raised s1.2 ha n1 n2)) (by unfold Xd; rw [← lx]; exact upd_same)
      · have neg' : ¬ l > 0 := fun z => neg (decide_eq_true z)
        have k2 : if l > 0 then Rz P C H E gs.length else (∀ q H', Sm P H H' → H' q = some (.tup xs) → Q (.ref q) H') := k
        rw [if_neg neg'] at k2
        exact ⟨_, rfl, k2 q H1 s1 e2⟩
/-! ### check_prefix -/
abbrev sCpf : Stmt := top 21
theorem scCpf : FnScope ["value", "signs", "_"] ["value"] (defScope sCpf) := ⟨rfl, rfl, rfl, by decide +kernel, rfl, by decide +kernel, by decide +kernel⟩
def spCpf (K : PySem.W.Frag) (P C : Addr) : Sp := fun vs H Q E => GxR.TabG H P ∧ ∃ (p : Addr) (xs : List V) (gs : List Sg), vs = [.ref p] ∧ RowAt K H p xs gs ∧
  (match lev gs 0 0 with
   | .inl i => Rz P C H E i
   | .inr _ => ∀ q H', Sm P H H' → H' q = some (.tup xs) → Q (.ref q) H')
theorem ok_cpf {f fR C : Addr} {fd fdR : FuncData} (F : Fun K "check_prefix" "check_prefix" sCpf f fd)
    (R : Df K mg "read_levels" sRdl ["value", "ahead"] fR fdR) (GR : FnOk Pg w K mg base (L2.CX Pg w) 4 fR fdR ["value", "ahead"] (spRdl K P C)) :
    FnOk Pg w K mg base (L2.CX Pg w) 5 f fd ["value"] (spCpf K P C) := by
  refine F.okX scCpf (fun vs H Q E h => ?_) (fun cdv A outer s H vs Q E hr h => ?_)
  · obtain ⟨_, _, _, _, rfl, _⟩ := h
    rfl
  · obtain ⟨t, p, xs, gs, rfl, hR, k⟩ := h
    refine ⟨_, pss_cons (ps_asg (pe_call GR hr (by rfl) R.g R.F.kp R.b .nil (passes_call (takes_of rfl rfl rfl rfl) fun _ _ _ _ h => h) (pa_cons (pv 0) (pa_cons pe_int pa_nil))) (pg_tup rfl (pgs_cons (pg_name (i := 1) scCpf.nd rfl (.inl rfl)) (pgs_cons (pg_name (i := 2) scCpf.nd rfl (.inl rfl)) pgs_nil))))
      (pss_one (ps_ret (pv 1))), ?_⟩
    refine ⟨_, rfl, t, p, xs, gs, 0, rfl, hR, ?_⟩
    cases hl : lev gs 0 0 with
    | inl i =>
      rw [hl] at k
      exact k
    | inr l =>
      rw [hl] at k
      intro r q H1 s1 e1 e2
      exact ⟨r, _, rfl, .inl (.inl e1), rfl, _, _, rfl, _, _, rfl, rfl, _, rfl, k q H1 s1 e2⟩
/-! ### depth -/
abbrev sDep : Stmt := top 26
theorem scDep : FnScope ["prefix", "_", "level"] ["prefix"] (defScope sDep) := ⟨rfl, rfl, rfl, by decide +kernel, rfl, by decide +kernel, by decide +kernel⟩
def spDep (K : PySem.W.Frag) (P C : Addr) : Sp := fun vs H Q E => GxR.TabG H P ∧ ∃ (p : Addr) (xs : List V) (gs : List Sg), vs = [.ref p] ∧ RowAt K H p xs gs ∧
  (match lev gs 0 0 with
   | .inl i => Rz P C H E i
   | .inr l => ∀ H', Sm P H H' → Q (.int l) H')
theorem ok_dep {f fR C : Addr} {fd fdR : FuncData} (F : Fun K "depth" "depth" sDep f fd)
    (R : Df K mg "read_levels" sRdl ["value", "ahead"] fR fdR) (GR : FnOk Pg w K mg base (L2.CX Pg w) 4 fR fdR ["value", "ahead"] (spRdl K P C)) :
    FnOk Pg w K mg base (L2.CX Pg w) 5 f fd ["prefix"] (spDep K P C) := by
  refine F.okX scDep (fun vs H Q E h => ?_) (fun cdv A outer s H vs Q E hr h => ?_)
  · obtain ⟨_, _, _, _, rfl, _⟩ := h
    rfl
  · obtain ⟨t, p, xs, gs, rfl, hR, k⟩ := h
    refine ⟨_, pss_cons (ps_asg (pe_call GR hr (by rfl) R.g R.F.kp R.b .nil (passes_call (takes_of rfl rfl rfl rfl) fun _ _ _ _ h => h) (pa_cons (pv 0) (pa_cons pe_int pa_nil))) (pg_tup rfl (pgs_cons (pg_name (i := 1) scDep.nd rfl (.inl rfl)) (pgs_cons (pg_name (i := 2) scDep.nd rfl (.inl rfl)) pgs_nil))))
      (pss_one (ps_ret (pv 2))), ?_⟩
    refine ⟨_, rfl, t, p, xs, gs, 0, rfl, hR, ?_⟩
    cases hl : lev gs 0 0 with
    | inl i =>
      rw [hl] at k
      exact k
    | inr l =>
      rw [hl] at k
      intro r q H1 s1 e1 e2
      exact ⟨r, _, rfl, .inl (.inl e1), rfl, _, _, rfl, _, _, rfl, rfl, _, rfl, k H1 s1⟩
/-! ### check_stream -/
abbrev sCst : Stmt := top 22
theorem scCst : FnScope ["value"] ["value"] (defScope sCst) := ⟨rfl, rfl, rfl, by decide +kernel, rfl, by decide +kernel, by decide +kernel⟩
def spCst (K : PySem.W.Frag) (P C : Addr) : Sp := fun vs H Q E => GxR.TabG H P ∧ ∃ (p : Addr) (xs : List V) (gs : List Sg), vs = [.ref p] ∧ RowAt K H p xs gs ∧
  wish P C H E gs 0 (∀ q H', Sm P H H' → H' q = some (.tup xs) → Q (.ref q) H')
theorem ok_cst {f fR C : Addr} {fd fdR : FuncData} (F : Fun K "check_stream" "check_stream" sCst f fd)
    (R : Df K mg "_read_whole" sRwh ["value", "ahead"] fR fdR) (GR : FnOk Pg w K mg base (L2.CX Pg w) 5 fR fdR ["value", "ahead"] (spRwh K P C)) :
    FnOk Pg w K mg base (L2.CX Pg w) 6 f fd ["value"] (spCst K P C) := by
  refine F.okX scCst (fun vs H Q E h => ?_) (fun cdv A outer s H vs Q E hr h => ?_)
  · obtain ⟨_, _, _, _, rfl, _⟩ := h
    rfl
  · obtain ⟨t, p, xs, gs, rfl, hR, k⟩ := h
    refine ⟨_, pss_one (ps_ret (pe_call GR hr (by rfl) R.g R.F.kp R.b .nil (passes_call (takes_of rfl rfl rfl rfl) fun _ _ _ _ h => h) (pa_cons (pv 0) (pa_cons pe_int pa_nil)))), ?_⟩
    exact ⟨_, rfl, t, p, xs, gs, 0, rfl, hR, k⟩
/-! ### check_ending -/
abbrev sCen : Stmt := top 24
theorem scCen : FnScope ["depth", "value"] ["depth", "value"] (defScope sCen) := ⟨rfl, rfl, rfl, by decide +kernel, rfl, by decide +kernel, by decide +kernel⟩
def spCen (K : PySem.W.Frag) (P C : Addr) : Sp := fun vs H Q E => GxR.TabG H P ∧ ∃ (p : Addr) (xs : List V) (gs : List Sg) (n : Int), vs = [.int n, .ref p] ∧ 0 ≤ n ∧ RowAt K H p xs gs ∧
  wish P C H E gs n (∀ q H', Sm P H H' → H' q = some (.tup xs) → Q (.ref q) H')
theorem ok_cen {f fR fN C : Addr} {fd fdR fdN : FuncData} (F : Fun K "check_ending" "check_ending" sCen f fd) (T : Tx K mg) (N : Df K mg "is_number" sNum ["value"] fN fdN)
    (R : Df K mg "_read_whole" sRwh ["value", "ahead"] fR fdR) (GR : FnOk Pg w K mg base (L2.CX Pg w) 5 fR fdR ["value", "ahead"] (spRwh K P C)) :
    FnOk Pg w K mg base (L2.CX Pg w) 6 f fd ["depth", "value"] (spCen K P C) := by
  have GN : FnOk Pg w K mg base CX0 1 fN fdN ["value"] (spNum P) := ok_num N.F T
  refine F.okX scCen (fun vs H Q E h => ?_) (fun cdv A outer s H vs Q E hr h => ?_)
  · obtain ⟨_, _, _, _, _, rfl, _⟩ := h
    rfl
  · obtain ⟨t, p, xs, gs, n, rfl, hn, hR, k⟩ := h
    refine ⟨_, pss_cons (ps_if (pt_not (pt_val (pe_call GN (hr.mono (by decide)) (by rfl) N.g N.F.kp N.b .nil pass0 (pa_cons (pv 0) pa_nil)))) pss_never pss_nil)
      (pss_one (ps_ret (pe_call GR hr (by rfl) R.g R.F.kp R.b .nil (passes_call (takes_of rfl rfl rfl rfl) fun _ _ _ _ h => h) (pa_cons (pv 1) (pa_cons (pv 0) pa_nil))))), ?_⟩
    refine ⟨_, rfl, t, _, ⟨n, rfl, rfl⟩, fun v H1 s1 e => ⟨true, by rw [e, decide_eq_true (show n ≥ 0 from hn)], iteF ?_⟩⟩
    refine ⟨_, rfl, _, rfl, s1.2, p, xs, gs, n, rfl, hR.mono t s1, ?_⟩
    unfold wish at k ⊢
    cases hl : lev gs 0 n with
    | inl i =>
      rw [hl] at k
      exact Rz.later s1 k
    | inr l =>
      rw [hl] at k
      have k2 : if l > 0 then Rz P C H E gs.length else (∀ q H', Sm P H H' → H' q = some (.tup xs) → Q (.ref q) H') := k
      show if l > 0 then Rz P C H1 E gs.length else (∀ q H', Sm P H1 H' → H' q = some (.tup xs) → Q (.ref q) H')
      by_cases hp : l > 0
      · rw [if_pos hp] at k2 ⊢
        exact Rz.later s1 k2
      · rw [if_neg hp] at k2 ⊢
        exact fun q H' s2 e2 => k2 q H' (s1.trans s2) e2
/-! ### is_stream, is_ending -/
abbrev sIst : Stmt := top 23
theorem scIst : FnScope ["value"] ["value"] (defScope sIst) := ⟨rfl, rfl, rfl, by decide +kernel, rfl, by decide +kernel, by decide +kernel⟩
def spIst (K : PySem.W.Frag) (P : Addr) : Sp := Pu P fun vs H R => ∃ (p : Addr) (xs : List V) (gs : List Sg), vs = [.ref p] ∧ RowAt K H p xs gs ∧ R = fun v _ => v = .bl (isEnd 0 gs)
theorem wish_of {C : Addr} {H : Hp} {E : XK} {gs : List Sg} {n : Int} {k : Prop} (h1 : isEnd n gs = false → ∀ i, Rz P C H E i) (h2 : isEnd n gs = true → k) : wish P C H E gs n k := by
  unfold wish
  unfold isEnd at h1 h2
  cases hl : lev gs 0 n with
  | inl i =>
    rw [hl] at h1
    exact h1 rfl i
  | inr l =>
    rw [hl] at h1 h2
    show if l > 0 then Rz P C H E gs.length else k
    by_cases hp : l > 0
    · rw [if_pos hp]
      exact h1 (by show (!decide (l > 0)) = false; rw [decide_eq_true hp]; rfl) _
    · rw [if_neg hp]
      exact h2 (by show (!decide (l > 0)) = true; rw [decide_eq_false hp]; rfl)
theorem ok_ist {f fR C fI : Addr} {fd fdR fdI : FuncData} (F : Fun K "is_stream" "is_stream" sIst f fd) (B : BS K mg C fI fdI)
    (R : Df K mg "check_stream" sCst ["value"] fR fdR) (GR : FnOk Pg w K mg base (L2.CX Pg w) 6 fR fdR ["value"] (spCst K P C)) :
    FnOk Pg w K mg base CX0 7 f fd ["value"] (spIst K P) := by
  refine F.ok scIst (fun vs H Q E h => ?_) (fun cdv A outer s H vs Q E hr h => ?_)
  · obtain ⟨_, _, ⟨_, _, _, rfl, _⟩, _⟩ := h
    rfl
  · obtain ⟨t, _, ⟨p, xs, gs, rfl, hR, rfl⟩, k⟩ := h
    refine ⟨_, pss_cons (ps_try_only (tb := fun W => tDrop (tCallS (spCst K P C) (WE W) (tCons (tVar 0) tNil))) (ts := fun _ _ _ => tRet (tC (.bl false))) (Wout := fun _ _ _ _ => False) rfl rfl ⟨rfl, by decide, Or.inl B.g⟩ takes0
        (fun W pn xe tk _ => pss_one (ps_expr (pe_callS GR hr (by rfl) R.g R.F.kp R.b (fun σ => passAt tk σ) (by exact (pa_cons (pv 0) pa_nil)))))
        (fun _ _ _ _ _ _ _ => pss_one (ps_ret pe_bl)))
      (pss_one (ps_ret pe_bl)), ?_⟩
    refine ⟨_, rfl, t, p, xs, gs, rfl, hR, wish_of (fun e i d H' s1 _ => ⟨true, B.te, fun _ a _ => k _ _ s1 (by rw [e]), fun q => nomatch q⟩) (fun e q H' s1 _ => k _ _ s1 (by rw [e]))⟩
abbrev sIen : Stmt := top 25
theorem scIen : FnScope ["depth", "value"] ["depth", "value"] (defScope sIen) := ⟨rfl, rfl, rfl, by decide +kernel, rfl, by decide +kernel, by decide +kernel⟩
def spIen (K : PySem.W.Frag) (P : Addr) : Sp := Pu P fun vs H R => ∃ (p : Addr) (xs : List V) (gs : List Sg) (n : Int), vs = [.int n, .ref p] ∧ 0 ≤ n ∧ RowAt K H p xs gs ∧ R = fun v _ => v = .bl (isEnd n gs)
theorem ok_ien {f fR C fI : Addr} {fd fdR fdI : FuncData} (F : Fun K "is_ending" "is_ending" sIen f fd) (B : BS K mg C fI fdI)
    (R : Df K mg "check_ending" sCen ["depth", "value"] fR fdR) (GR : FnOk Pg w K mg base (L2.CX Pg w) 6 fR fdR ["depth", "value"] (spCen K P C)) :
    FnOk Pg w K mg base CX0 7 f fd ["depth", "value"] (spIen K P) := by
  refine F.ok scIen (fun vs H Q E h => ?_) (fun cdv A outer s H vs Q E hr h => ?_)
  · obtain ⟨_, _, ⟨_, _, _, _, rfl, _⟩, _⟩ := h
    rfl
  · obtain ⟨t, _, ⟨p, xs, gs, n, rfl, hn, hR, rfl⟩, k⟩ := h
    refine ⟨_, pss_cons (ps_try_only (tb := fun W => tDrop (tCallS (spCen K P C) (WE W) (tCons (tVar 0) (tCons (tVar 1) tNil)))) (ts := fun _ _ _ => tRet (tC (.bl false))) (Wout := fun _ _ _ _ => False) rfl rfl ⟨rfl, by decide, Or.inl B.g⟩ takes0
        (fun W pn xe tk _ => pss_one (ps_expr (pe_callS GR hr (by rfl) R.g R.F.kp R.b (fun σ => passAt tk σ) (by exact (pa_cons (pv 0) (pa_cons (pv 1) pa_nil))))))
        (fun _ _ _ _ _ _ _ => pss_one (ps_ret pe_bl)))
      (pss_one (ps_ret pe_bl)), ?_⟩
    refine ⟨_, rfl, _, rfl, t, p, xs, gs, n, rfl, hn, hR, wish_of (fun e i d H' s1 _ => ⟨true, B.te, fun _ a _ => k _ _ s1 (by rw [e]), fun q => nomatch q⟩) (fun e q H' s1 _ => k _ _ s1 (by rw [e]))⟩
end
end K6

set_option maxRecDepth 100000
set_option maxHeartbeats 4000000
namespace K6
open PySem PySem.Spec PyProof.Rows L2 So
/-! ### nodes -/
inductive Nd where
  | tx (t : Str)
  | el (l : Str) (ds : List Nd)
mutual
def ndD : Nd → PyData
  | .tx t => .tuple [.str "text", .str t]
  | .el l ds => .tuple [.str "element", .str l, .tuple (ndsD ds)]
def ndsD : List Nd → List PyData
  | [] => []
  | d :: r => ndD d :: ndsD r
end
mutual
def sgN : Nd → List Sg
  | .tx t => [.tx t]
  | .el l ds => .op l :: (sgs ds ++ [.cl])
def sgs : List Nd → List Sg
  | [] => []
  | d :: r => sgN d ++ sgs r
end
theorem ndsD_append : ∀ a b : List Nd, ndsD (a ++ b) = ndsD a ++ ndsD b
  | [], _ => rfl
  | x :: a, b => by
    show ndD x :: ndsD (a ++ b) = ndD x :: ndsD a ++ ndsD b
    rw [ndsD_append a b]
    rfl
theorem sgs_append : ∀ a b : List Nd, sgs (a ++ b) = sgs a ++ sgs b
  | [], _ => rfl
  | x :: a, b => by
    show sgN x ++ sgs (a ++ b) = sgN x ++ sgs a ++ sgs b
    rw [sgs_append a b, List.append_assoc]
/-! ### what keeps tuples -/
def Tp (H H' : Hp) : Prop := ∀ b xs, Rd H b (.tup xs) → Rd H' b (.tup xs)
theorem Tp.refl (H : Hp) : Tp H H := fun _ _ h => h
theorem Tp.trans {H H1 H2 : Hp} (a : Tp H H1) (b : Tp H1 H2) : Tp H H2 := fun x y h => b x y (a x y h)
theorem Tp.sm {P : Addr} {H H' : Hp} (t : GxR.TabG H P) (s : Sm P H H') : Tp H H' := fun b xs h => by
  rcases h with h | ⟨o, h⟩
  · exact .inl (s.1 _ _ (tab_tup t h (fun _ q => nomatch q)) h)
  · exact .inr ⟨o, s.1 _ _ (tab_tup t h (fun _ q => nomatch q)) h⟩
theorem Tp.new {H : Hp} {p : Addr} {o : HO} (h : H p = none) : Tp H (upd H p o) := fun b xs r => by
  rcases r with r | ⟨u, r⟩
  · exact .inl (by rw [upd_ne (ne_of_none r h)]; exact r)
  · exact .inr ⟨u, by rw [upd_ne (ne_of_none r h)]; exact r⟩
theorem Tp.lst {H : Hp} {p : Addr} {o : HO} {ys : List V} (h : H p = some (.lst ys)) : Tp H (upd H p o) := fun b xs r => by
  rcases r with r | ⟨u, r⟩
  · exact .inl (by rw [upd_ne (ne_of r h (fun q => nomatch q))]; exact r)
  · exact .inr ⟨u, by rw [upd_ne (ne_of r h (fun q => nomatch q))]; exact r⟩
section
variable {K : PySem.W.Frag} {H H' : Hp}
theorem Tp.sq {a : Addr} {xs : List V} (s : Tp H H') (h : SqT K H a xs) : SqT K H' a xs := by
  rcases h with h | h
  · exact .inl (s _ _ h)
  · exact .inr h
theorem dp_str {v : V} {z : Str} (h : Dp K H v (.str z)) : v = .str z := by
  cases h
  rfl
theorem dp_tup {v : V} {ds : List PyData} (h : Dp K H v (.tuple ds)) : ∃ a xs, v = .ref a ∧ SqT K H a xs ∧ DpAll K H xs ds := by
  cases h with
  | tup h1 h2 => exact ⟨_, _, rfl, h1, h2⟩
theorem all_nil' {xs : List V} (h : DpAll K H xs []) : xs = [] := by
  cases h
  rfl
theorem all_cons' {xs : List V} {d : PyData} {ds : List PyData} (h : DpAll K H xs (d :: ds)) : ∃ v vs, xs = v :: vs ∧ Dp K H v d ∧ DpAll K H vs ds := by
  cases h with
  | cons h1 h2 => exact ⟨_, _, rfl, h1, h2⟩
theorem all_append : ∀ {xs ys : List V} {ds es : List PyData}, DpAll K H xs ds → DpAll K H ys es → DpAll K H (xs ++ ys) (ds ++ es)
  | [], _, _, _, .nil, h => h
  | _ :: _, _, _, _, .cons a b, h => .cons a (all_append b h)
theorem all_length : ∀ {xs : List V} {ds : List PyData}, DpAll K H xs ds → xs.length = ds.length
  | [], _, .nil => rfl
  | _ :: _, _, .cons _ b => congrArg (· + 1) (all_length b)
theorem ndsD_length : ∀ ds : List Nd, (ndsD ds).length = ds.length
  | [] => rfl
  | _ :: r => congrArg (· + 1) (ndsD_length r)
theorem nd_tx {v : V} {z : Str} (h : Dp K H v (ndD (.tx z))) : ∃ a, v = .ref a ∧ SqT K H a [.str "text", .str z] := by
  obtain ⟨a, xs, rfl, h1, h2⟩ := dp_tup (show Dp K H v (.tuple [.str "text", .str z]) by simpa only [ndD] using h)
  obtain ⟨v1, r1, rfl, d1, h3⟩ := all_cons' h2
  obtain ⟨v2, r2, rfl, d2, h4⟩ := all_cons' h3
  cases dp_str d1
  cases dp_str d2
  cases all_nil' h4
  exact ⟨a, rfl, h1⟩
theorem nd_el {v : V} {l : Str} {ds : List Nd} (h : Dp K H v (ndD (.el l ds))) : ∃ a b ys, v = .ref a ∧ SqT K H a [.str "element", .str l, .ref b] ∧ SqT K H b ys ∧ DpAll K H ys (ndsD ds) := by
  obtain ⟨a, xs, rfl, h1, h2⟩ := dp_tup (show Dp K H v (.tuple [.str "element", .str l, .tuple (ndsD ds)]) by simpa only [ndD] using h)
  obtain ⟨v1, r1, rfl, d1, h3⟩ := all_cons' h2
  obtain ⟨v2, r2, rfl, d2, h4⟩ := all_cons' h3
  obtain ⟨v3, r3, rfl, d3, h5⟩ := all_cons' h4
  cases dp_str d1
  cases dp_str d2
  cases all_nil' h5
  obtain ⟨b, ys, rfl, h6, h7⟩ := dp_tup d3
  exact ⟨a, b, ys, rfl, h1, h6, h7⟩
theorem nd_tx_mk {a : Addr} {z : Str} (h : SqT K H a [.str "text", .str z]) : Dp K H (.ref a) (ndD (.tx z)) := by
  rw [ndD]
  exact .tup h (.cons (.str _) (.cons (.str _) .nil))
theorem nd_el_mk {a b : Addr} {l : Str} {ds : List Nd} {ys : List V} (h : SqT K H a [.str "element", .str l, .ref b]) (h2 : SqT K H b ys) (h3 : DpAll K H ys (ndsD ds)) : Dp K H (.ref a) (ndD (.el l ds)) := by
  rw [ndD]
  exact .tup h (.cons (.str _) (.cons (.str _) (.cons (.tup h2 h3) .nil)))
mutual
theorem nd_tp (s : Tp H H') : ∀ (d : Nd) (v : V), Dp K H v (ndD d) → Dp K H' v (ndD d)
  | .tx z, v, h => by
    obtain ⟨a, rfl, h1⟩ := nd_tx h
    exact nd_tx_mk (s.sq h1)
  | .el l ds, v, h => by
    obtain ⟨a, b, ys, rfl, h1, h2, h3⟩ := nd_el h
    exact nd_el_mk (s.sq h1) (s.sq h2) (nds_tp s ds ys h3)
theorem nds_tp (s : Tp H H') : ∀ (ds : List Nd) (vs : List V), DpAll K H vs (ndsD ds) → DpAll K H' vs (ndsD ds)
  | [], vs, h => by
    rw [ndsD] at h ⊢
    cases all_nil' h
    exact .nil
  | d :: r, vs, h => by
    rw [ndsD] at h ⊢
    obtain ⟨v, vs', rfl, h1, h2⟩ := all_cons' h
    exact .cons (nd_tp s d v h1) (nds_tp s r vs' h2)
end
end
/-! ### the mirror of _nodes_of -/
abbrev NS := List (List Nd) × List Str
def nst : NS → Sg → NS
  | (r :: rs, ls), .tx t => ((r ++ [.tx t]) :: rs, ls)
  | (rs, ls), .op l => ([] :: rs, l :: ls)
  | (r :: q :: rs, l :: ls), .cl => ((q ++ [.el l r]) :: rs, ls)
  | s, _ => s
def nAll (gs : List Sg) : NS := gs.foldl nst ([[]], [])
def nodesOf (gs : List Sg) : List Nd := match nAll gs with
  | (r :: _, _) => r
  | _ => []
theorem nAll_snoc (gs : List Sg) (g : Sg) : nAll (gs ++ [g]) = nst (nAll gs) g := by
  unfold nAll
  rw [List.foldl_append]
  rfl
/-- what a state has read -/
def flat : List (List Nd) → List Str → List Sg
  | r :: rs, l :: ls => flat rs ls ++ .op l :: sgs r
  | r :: _, [] => sgs r
  | [], _ => []
theorem flat_nst : ∀ (rs : List (List Nd)) (ls : List Str) (g : Sg), rs.length = ls.length + 1 → (g = .cl → ls ≠ []) →
    flat (nst (rs, ls) g).1 (nst (rs, ls) g).2 = flat rs ls ++ [g] ∧ (nst (rs, ls) g).1.length = (nst (rs, ls) g).2.length + 1 ∧ (((nst (rs, ls) g).2.length : Nat) : Int) = ls.length + g.d
  | [], ls, g, h, _ => by simp at h
  | r :: rs, ls, .tx t, h, _ => by
    refine ⟨?_, h, by simp [nst, Sg.d]⟩
    show flat ((r ++ [.tx t]) :: rs) ls = flat (r :: rs) ls ++ [.tx t]
    have e : sgs (r ++ [.tx t]) = sgs r ++ [.tx t] := by
      rw [sgs_append]
      simp [sgs, sgN]
    cases ls with
    | nil =>
      show sgs (r ++ [.tx t]) = sgs r ++ [.tx t]
      exact e
    | cons l ls =>
      show flat rs ls ++ .op l :: sgs (r ++ [.tx t]) = flat rs ls ++ .op l :: sgs r ++ [.tx t]
      rw [e]
      simp
  | r :: rs, ls, .op l, h, _ => by
    refine ⟨?_, by simp [nst] at h ⊢; exact h, by simp [nst, Sg.d]⟩
    show flat (r :: rs) ls ++ .op l :: sgs [] = flat (r :: rs) ls ++ [.op l]
    rw [sgs]
  | [r], [], .cl, _, hc => absurd rfl (hc rfl)
  | r :: q :: rs, [], .cl, _, hc => absurd rfl (hc rfl)
  | [r], l :: ls, .cl, h, _ => by simp at h
  | r :: q :: rs, l :: ls, .cl, h, _ => by
    refine ⟨?_, by simp [nst] at h ⊢; exact h, by simp [nst, Sg.d]; omega⟩
    show flat ((q ++ [.el l r]) :: rs) ls = flat (q :: rs) ls ++ .op l :: sgs r ++ [.cl]
    have e : sgs (q ++ [.el l r]) = sgs q ++ (.op l :: sgs r ++ [.cl]) := by
      rw [sgs_append]
      simp [sgs, sgN]
    cases ls with
    | nil =>
      show sgs (q ++ [.el l r]) = sgs q ++ .op l :: sgs r ++ [.cl]
      rw [e]
      simp
    | cons l2 ls =>
      show flat rs ls ++ .op l2 :: sgs (q ++ [.el l r]) = flat rs ls ++ .op l2 :: sgs q ++ .op l :: sgs r ++ [.cl]
      rw [e]
      simp
/-- along a row that closes nothing that is not open -/
theorem nAll_along (gs : List Sg) (l : Int) (h : lev gs 0 0 = .inr l) : ∀ i, i ≤ gs.length →
    flat (nAll (gs.take i)).1 (nAll (gs.take i)).2 = gs.take i ∧ (nAll (gs.take i)).1.length = (nAll (gs.take i)).2.length + 1 ∧ lev (gs.drop i) i ((nAll (gs.take i)).2.length : Nat) = .inr l := by
  intro i
  induction i with
  | zero => intro _; exact ⟨rfl, rfl, h⟩
  | succ i ih =>
    intro hi
    obtain ⟨h1, h2, h3⟩ := ih (by omega)
    have hg : gs[i]? = some gs[i] := List.getElem?_eq_getElem (by omega)
    rw [take_snoc hg, nAll_snoc]
    rw [lev_at hg] at h3
    have nn : ¬ (((nAll (gs.take i)).2.length : Nat) : Int) + (gs[i]).d < 0 := fun z => by
      rw [if_pos z] at h3
      cases h3
    rw [if_neg nn] at h3
    obtain ⟨f1, f2, f3⟩ := flat_nst (nAll (gs.take i)).1 (nAll (gs.take i)).2 gs[i] h2 (fun e z => by
      rw [e, z] at nn
      exact nn (by decide))
    refine ⟨f1.trans (congrArg (· ++ [gs[i]]) h1), f2, ?_⟩
    have e : (((nst (nAll (gs.take i)) gs[i]).2.length : Nat) : Int) = ((nAll (gs.take i)).2.length : Nat) + (gs[i]).d := f3
    rw [e]
    exact h3
theorem signs_nodes {gs : List Sg} (h : isEnd 0 gs = true) : sgs (nodesOf gs) = gs := by
  unfold isEnd at h
  cases hl : lev gs 0 0 with
  | inl i =>
    rw [hl] at h
    cases h
  | inr l =>
    rw [hl] at h
    have hl0 : ¬ l > 0 := by
      have h' : (!decide (l > 0)) = true := h
      intro z
      rw [decide_eq_true z] at h'
      cases h'
    obtain ⟨h1, h2, h3⟩ := nAll_along gs l hl gs.length (Nat.le_refl _)
    rw [List.drop_length, List.take_length] at h3
    rw [List.take_length] at h1 h2
    have e : (((nAll gs).2.length : Nat) : Int) = l := Sum.inr.inj h3
    have z : (nAll gs).2 = [] := List.eq_nil_of_length_eq_zero (by omega)
    unfold nodesOf
    rw [z] at h1 h2
    generalize hn : nAll gs = ns at h1 h2
    obtain ⟨rs, ls⟩ := ns
    cases rs with
    | nil => simp at h2
    | cons r rs => exact h1
end K6

set_option maxRecDepth 100000
set_option maxHeartbeats 4000000
namespace K6
open PySem PySem.Spec PyProof.Rows L2 So
/-! ### frames: the lists that are open, the innermost first -/
def Frs (K : PySem.W.Frag) (H : Hp) (n : Nat) : List (Addr × List V) → List (List Nd) → Prop :=
  Paired fun f r => H f.1 = some (.lst f.2) ∧ DpAll K H f.2 (ndsD r) ∧ f.2.length ≤ n
def adr (fr : List (Addr × List V)) : List Addr := fr.map (·.1)
def refs (fr : List (Addr × List V)) : List V := (fr.map fun f => V.ref f.1).reverse
theorem refs_cons (f : Addr × List V) (fr : List (Addr × List V)) : refs (f :: fr) = refs fr ++ [V.ref f.1] := by
  unfold refs
  rw [List.map_cons, List.reverse_cons]
theorem refs_len (fr : List (Addr × List V)) : (refs fr).length = fr.length := by
  unfold refs
  simp
theorem Frs.mono {K : PySem.W.Frag} {H H' : Hp} {n m : Nat} (tp : Tp H H') (hn : n ≤ m) : ∀ {fr : List (Addr × List V)} {rows : List (List Nd)}, (∀ f ∈ fr, H' f.1 = H f.1) → Frs K H n fr rows → Frs K H' m fr rows
  | _, _, _, .nil => .nil
  | f :: _, _, h, .cons a b => .cons ⟨by rw [h f (List.mem_cons_self ..)]; exact a.1, nds_tp tp _ _ a.2.1, Nat.le_trans a.2.2 hn⟩ (Frs.mono tp hn (fun x hx => h x (List.mem_cons_of_mem _ hx)) b)
theorem Frs.len {K : PySem.W.Frag} {H : Hp} {n : Nat} {fr : List (Addr × List V)} {rows : List (List Nd)} (h : Frs K H n fr rows) : fr.length = rows.length := Paired.length h
theorem pop_last {α : Type} (xs : List α) (y : α) : (xs ++ [y])[(xs ++ [y]).length - 1]? = some y := by
  simp
theorem ne_mem {α : Type} {a : α} {xs : List α} (h : a ∉ xs) {b : α} (hb : b ∈ xs) : b ≠ a := fun e => h (e ▸ hb)
section
variable {Pg : Program} {w : World} {K : PySem.W.Frag} {mg : Str → Option Value} {base : Heap} {P : Addr}
/-! ### _nodes_of -/
abbrev sNod : Stmt := top 31
theorem scNod : FnScope ["signs", "rows", "labels", "sign", "inside"] ["signs"] (defScope sNod) := ⟨rfl, rfl, rfl, by decide +kernel, rfl, by decide +kernel, by decide +kernel⟩
def spNod (K : PySem.W.Frag) (P : Addr) : Sp := Pu P fun vs H R => ∃ (p : Addr) (xs : List V) (gs : List Sg), vs = [.ref p] ∧ RowAt K H p xs gs ∧ gs.length ≤ 1000 ∧ isEnd 0 gs = true ∧ R = fun v H' => Dp K H' v (.tuple (ndsD (nodesOf gs)))
/-- between two signs: R the list of rows, B that of labels -/
structure NInv (K : PySem.W.Frag) (P : Addr) (H0 H : Hp) (R B : Addr) (fr : List (Addr × List V)) (ns : NS) (n : Nat) : Prop where
  sm : Sm P H0 H
  tp : Tp H0 H
  hR : H R = some (.lst (refs fr))
  hB : H B = some (.lst (ns.2.map V.str).reverse)
  fs : Frs K H n fr ns.1
  nd : (R :: B :: adr fr).Nodup
  nw : ∀ a ∈ R :: B :: adr fr, H0 a = none ∧ a ≠ P
  ll : ns.2.length ≤ n
  lr : ns.1.length ≤ n + 1
theorem ok_nod {f : Addr} {fd : FuncData} (F : Fun K "_nodes_of" "_nodes_of" sNod f fd) (T : Tx K mg) : FnOk Pg w K mg base CX0 1 f fd ["signs"] (spNod K P) := by
  refine F.ok scNod (fun vs H Q E h => ?_) (fun cdv A outer s H vs Q E hr h => ?_)
  · obtain ⟨_, _, ⟨_, _, _, rfl, _⟩, _⟩ := h
    rfl
  · obtain ⟨t, _, ⟨p, xs, gs, rfl, hRow, hlen, hend, rfl⟩, k⟩ := h
    refine ⟨_, pss_cons (ps_set (i := 1) scNod.nd rfl (Or.inl rfl) (pe_lst (pa_cons (pe_lst pa_nil) pa_nil)))
      (pss_cons (ps_set (i := 2) scNod.nd rfl (Or.inl rfl) (pe_lst pa_nil))
      (pss_cons (ps_for PassesOwn.never rfl (pi_tup (pv 0)) (pg_name (i := 3) scNod.nd rfl (Or.inl rfl))
        (pss_one (ps_if (pt_cmpR op_eq (pe_ix ix_tup (pv 3) pe_int (fun _ _ => rfl)) pe_str (nomark _))
          (pss_one (ps_expr (pe_bm PySem.F.plainAttrs_list PySem.F.slot_list_append PySem.F.type_list_append mt_append (pe_ix ix_list (pv 1) (pe_un un_neg pe_int) (fun _ _ => rfl)) (pa_cons (pv 3) pa_nil))))
          (pss_one (ps_if (pt_cmpR op_eq (pe_ix ix_tup (pv 3) pe_int (fun _ _ => rfl)) pe_str (nomark _))
            (pss_cons (ps_expr (pe_bm PySem.F.plainAttrs_list PySem.F.slot_list_append PySem.F.type_list_append mt_append (pv 2) (pa_cons (pe_ix ix_tup (pv 3) pe_int (fun _ _ => rfl)) pa_nil)))
              (pss_one (ps_expr (pe_bm PySem.F.plainAttrs_list PySem.F.slot_list_append PySem.F.type_list_append mt_append (pv 1) (pa_cons (pe_lst pa_nil) pa_nil)))))
            (pss_cons (ps_set (i := 4) scNod.nd rfl (Or.inl rfl) (pe_tupleOf (by rfl) T.tuple (pe_bm0 PySem.F.plainAttrs_list PySem.F.slot_list_pop PySem.F.type_list_pop mt_pop (pv 1))))
              (pss_one (ps_expr (pe_bm PySem.F.plainAttrs_list PySem.F.slot_list_append PySem.F.type_list_append mt_append (pe_ix ix_list (pv 1) (pe_un un_neg pe_int) (fun _ _ => rfl))
                (pa_cons (pe_tup (pa_cons pe_str (pa_cons (pe_bm0 PySem.F.plainAttrs_list PySem.F.slot_list_pop PySem.F.type_list_pop mt_pop (pv 2)) (pa_cons (pv 4) pa_nil)))) pa_nil))))))))))
      (pss_one (ps_ret (pe_tupleOf (by rfl) T.tuple (pe_ix ix_list (pv 1) pe_int (fun _ _ => rfl))))))), ?_⟩
    obtain ⟨hx, hg, hok, _⟩ := _root_.id hRow
    have lx : xs.length = gs.length := Paired.length hg
    obtain ⟨lv, hlv⟩ : ∃ l, lev gs 0 0 = .inr l := by
      unfold isEnd at hend
      cases hl : lev gs 0 0 with
      | inl i =>
        rw [hl] at hend
        cases hend
      | inr l => exact ⟨l, rfl⟩
    have along := nAll_along gs lv hlv
    have small : ∀ {n : Nat}, n ≤ 1002 → n < sizeLine := fun h => Nat.lt_of_le_of_lt h (by decide)
    refine ⟨Nat.zero_le _, fun A0 hA => ⟨(by show 1 ≤ sizeLine; decide), fun R hRn => ⟨Nat.zero_le _, fun B hBn => ?_⟩⟩⟩
    have nP : ∀ {H' : Hp} {a : Addr}, GxR.TabG H' P → H' a = none → a ≠ P := fun t e z => by
      obtain ⟨ps, q, _⟩ := t
      rw [z, q] at e
      cases e
    have s1 : Sm P H (upd H A0 (.lst [])) := Sm.new t hA
    have s2 : Sm P H (upd (upd H A0 (.lst [])) R (.lst [.ref A0])) := s1.trans (Sm.new s1.2 hRn)
    have s3 := s2.trans (Sm.new (o := .lst []) s2.2 hBn)
    have nRA : R ≠ A0 := fun z => by
      rw [z, upd_same] at hRn
      cases hRn
    have nBR : B ≠ R := fun z => by
      rw [z, upd_same] at hBn
      cases hBn
    have nBA : B ≠ A0 := fun z => by
      rw [z, upd_ne nRA.symm, upd_same] at hBn
      cases hBn
    have start : NInv K P H (upd (upd (upd H A0 (.lst [])) R (.lst [.ref A0])) B (.lst [])) R B [(A0, [])] ([[]], []) 0 := {
      sm := s3
      tp := Tp.sm t s3
      hR := by rw [upd_ne nBR.symm, upd_same]; rfl
      hB := upd_same
      fs := .cons ⟨by rw [upd_ne nBA.symm, upd_ne nRA.symm, upd_same], by rw [ndsD]; exact .nil, Nat.le_refl _⟩ .nil
      nd := by simp [adr, nBR.symm, nRA, nBA]
      nw := fun a ha => by
        have : a = R ∨ a = B ∨ a = A0 := by simpa [adr] using ha
        rcases this with z | z | z
        · rw [z]; exact ⟨s1.free t hRn, nP s1.2 hRn⟩
        · rw [z]; exact ⟨s2.free t hBn, nP s2.2 hBn⟩
        · rw [z]; exact ⟨hA, nP t hA⟩
      ll := Nat.zero_le _
      lr := Nat.le_refl _ }
    refine ⟨_, rfl, p, rfl, ⟨_, s3.tup t hx⟩, for_tup (xs := xs) (fun i σ H' => ∃ (fr : List (Addr × List V)) (v3 v4 : Option V), σ = [some (.ref p), some (.ref R), some (.ref B), v3, v4] ∧ NInv K P H H' R B fr (nAll (gs.take i)) i)
      ⟨[(A0, [])], none, none, rfl, start⟩ (fun i σ H' _ ⟨_, _, _, _, N⟩ => N.sm.tup t hx) ?_ ?_⟩
    · rintro i y σ H' hy ⟨fr, v3, v4, rfl, N⟩
      obtain ⟨g, hgi, q, rfl, hq0⟩ := paired_get hg hy
      have hi : i < gs.length := (List.getElem?_eq_some_iff.mp hgi).1
      obtain ⟨a1, a2, a3⟩ := along i (by omega)
      rw [lev_at hgi] at a3
      have nn : ¬ (((nAll (gs.take i)).2.length : Nat) : Int) + g.d < 0 := fun z => by
        rw [if_pos z] at a3
        cases a3
      have nxt : nAll (gs.take (i + 1)) = nst (nAll (gs.take i)) g := by rw [take_snoc hgi, nAll_snoc]
      have hq : SqT K H' q g.vs := N.sm.tup t hq0
      rw [nxt]
      generalize nAll (gs.take i) = ns at N a1 a2 nn
      obtain ⟨rows, labels⟩ := ns
      obtain ⟨ndR, ndr⟩ := List.nodup_cons.mp N.nd
      obtain ⟨ndB, nda⟩ := List.nodup_cons.mp ndr
      have neRB : R ≠ B := fun z => ndR (by rw [z]; exact List.mem_cons_self ..)
      cases rows with
      | nil => simp at a2
      | cons r rows =>
        have hfs := N.fs
        cases hfs with
        | @cons f _ fr' _ hf hfr =>
          obtain ⟨f1, f2, f3⟩ := hf
          have nfR : f.1 ≠ R := fun z => ndR (by rw [← z]; exact List.mem_cons_of_mem _ (List.mem_cons_self ..))
          have nfB : f.1 ≠ B := fun z => ndB (by rw [← z]; exact List.mem_cons_self ..)
          obtain ⟨ndf, ndfr⟩ := List.nodup_cons.mp nda
          have hlast : atI (refs (f :: fr')) (-1) = some (V.ref f.1) := by rw [refs_cons]; exact atI_last _ _
          cases g with
          | tx z =>
            refine ⟨_, rfl, q, _, _, _, rfl, rfl, hq, atI_nat (j := 0) rfl, rfl, _, rfl, iteT ?_⟩
            refine ⟨_, rfl, _, rfl, R, _, _, _, rfl, rfl, SqL.of N.hR, hlast, .inl ⟨rfl, _, SqL.of f1⟩, _, rfl, f.1, _, _, rfl, rfl, f1, small (by omega), ?_⟩
            have tp : Tp H' (upd H' f.1 (.lst (f.2 ++ [V.ref q]))) := Tp.lst f1
            refine ⟨(f.1, f.2 ++ [V.ref q]) :: fr', _, _, rfl, ⟨N.sm.mut (N.nw f.1 (by simp [adr])).1 (N.nw f.1 (by simp [adr])).2, N.tp.trans tp, ?_, ?_, .cons ⟨upd_same, ?_, ?_⟩ ?_, N.nd, N.nw, Nat.le_succ_of_le N.ll, Nat.le_succ_of_le N.lr⟩⟩
            · rw [upd_ne nfR.symm]
              exact N.hR
            · rw [upd_ne nfB.symm]
              exact N.hB
            · rw [ndsD_append]
              refine all_append (nds_tp tp _ _ f2) ?_
              rw [ndsD, ndsD]
              exact .cons (nd_tx_mk (tp.sq hq)) .nil
            · show (f.2 ++ [V.ref q]).length ≤ i + 1
              rw [List.length_append, List.length_singleton]
              omega
            · exact Frs.mono tp (Nat.le_succ _) (fun x hx => upd_ne (ne_mem ndf (List.mem_map_of_mem hx))) hfr
          | op l =>
            refine ⟨_, rfl, q, _, _, _, rfl, rfl, hq, atI_nat (j := 0) rfl, rfl, _, rfl, ?_⟩
            rw [dstr (by decide +kernel)]
            refine iteF ⟨_, rfl, q, _, _, _, rfl, rfl, hq, atI_nat (j := 0) rfl, rfl, _, rfl, iteT ?_⟩
            refine ⟨_, rfl, .inl ⟨rfl, _, SqL.of N.hB⟩, _, rfl, q, _, _, _, rfl, rfl, hq, atI_nat (j := 1) rfl, B, _, _, rfl, rfl, N.hB, ?_, ?_⟩
            · rw [List.length_reverse, List.length_map]
              exact small (Nat.le_trans N.ll (by omega))
            have e1 : upd H' B (.lst ((labels.map V.str).reverse ++ [V.str l])) R = some (.lst (refs (f :: fr'))) := by
              rw [upd_ne neRB]
              exact N.hR
            refine ⟨_, rfl, .inl ⟨rfl, _, SqL.of e1⟩, Nat.zero_le _, fun A1 hA1 => ?_⟩
            have nB1 : B ≠ A1 := ne_of_none upd_same hA1
            have nR1 : R ≠ A1 := ne_of_none e1 hA1
            have e2 : upd (upd H' B (.lst ((labels.map V.str).reverse ++ [V.str l]))) A1 (.lst []) R = some (.lst (refs (f :: fr'))) := by
              rw [upd_ne nR1]
              exact e1
            have oldA : ∀ a ∈ adr (f :: fr'), a ≠ A1 := fun a ha => by
              have aB : a ≠ B := fun z => ndB (z ▸ ha)
              have : ∃ u, H' a = some u := by
                obtain ⟨x, hx, rfl⟩ := List.mem_map.mp ha
                rcases List.mem_cons.mp hx with z | z
                · rw [z]
                  exact ⟨_, f1⟩
                · obtain ⟨j, hj⟩ := List.mem_iff_getElem?.mp z
                  obtain ⟨_, _, q1, _⟩ := paired_get hfr hj
                  exact ⟨_, q1⟩
              obtain ⟨u, hu⟩ := this
              exact ne_of_none (by rw [upd_ne aB]; exact hu) hA1
            refine ⟨R, _, _, rfl, rfl, e2, ?_, ?_⟩
            · rw [refs_len]
              have := Frs.len N.fs
              exact small (by rw [this]; exact Nat.le_trans N.lr (by omega))
            have t1 : Tp H' (upd H' B (.lst ((labels.map V.str).reverse ++ [V.str l]))) := Tp.lst N.hB
            have t2 := t1.trans (Tp.new (o := .lst []) hA1)
            have t3 := t2.trans (Tp.lst (o := .lst (refs (f :: fr') ++ [V.ref A1])) e2)
            have wB := N.nw B (by simp)
            have wR := N.nw R (by simp)
            have m1 : Sm P H (upd H' B (.lst ((labels.map V.str).reverse ++ [V.str l]))) := N.sm.mut wB.1 wB.2
            have m2 := m1.trans (Sm.new (o := .lst []) m1.2 hA1)
            have m3 : Sm P H (upd (upd (upd H' B (.lst ((labels.map V.str).reverse ++ [V.str l]))) A1 (.lst [])) R (.lst (refs (f :: fr') ++ [V.ref A1]))) := m2.mut wR.1 wR.2
            have o1 : H A1 = none := m1.free t hA1
            have o2 : A1 ≠ P := nP m1.2 hA1
            refine ⟨(A1, []) :: f :: fr', _, _, rfl, ⟨m3, N.tp.trans t3, ?_, ?_, .cons ⟨?_, by rw [ndsD]; exact .nil, Nat.zero_le _⟩ (Frs.mono t3 (Nat.le_succ _) (fun x hx => ?_) N.fs), ?_, ?_, ?_, ?_⟩⟩
            · rw [upd_same, refs_cons (A1, [])]
            · rw [upd_ne neRB.symm, upd_ne nB1, upd_same]
              show some (HO.lst ((labels.map V.str).reverse ++ [V.str l])) = some (HO.lst (V.str l :: labels.map V.str).reverse)
              rw [List.reverse_cons]
            · rw [upd_ne nR1.symm, upd_same]
            · have hx' : x.1 ∈ adr (f :: fr') := List.mem_map_of_mem hx
              have xR : x.1 ≠ R := fun z => ndR (by rw [← z]; exact List.mem_cons_of_mem _ hx')
              have xB : x.1 ≠ B := fun z => ndB (z ▸ hx')
              rw [upd_ne xR, upd_ne (oldA _ hx'), upd_ne xB]
            · refine List.nodup_cons.mpr ⟨fun z => ?_, List.nodup_cons.mpr ⟨fun z => ?_, List.nodup_cons.mpr ⟨fun z => oldA A1 z rfl, nda⟩⟩⟩
              · rcases List.mem_cons.mp z with z | z
                · exact neRB z
                · rcases List.mem_cons.mp z with z | z
                  · exact nR1 z
                  · exact ndR (List.mem_cons_of_mem _ z)
              · rcases List.mem_cons.mp z with z | z
                · exact nB1 z
                · exact ndB z
            · intro a ha
              rcases List.mem_cons.mp ha with z | z
              · rw [z]; exact wR
              · rcases List.mem_cons.mp z with z | z
                · rw [z]; exact wB
                · rcases List.mem_cons.mp z with z | z
                  · rw [z]; exact ⟨o1, o2⟩
                  · exact N.nw a (List.mem_cons_of_mem _ (List.mem_cons_of_mem _ z))
            · exact Nat.succ_le_succ N.ll
            · exact Nat.succ_le_succ N.lr
          | cl =>
            have nn' : labels ≠ [] := fun z => by
              rw [z] at nn
              exact nn (by show ((0 : Nat) : Int) + (-1) < 0; decide)
            cases labels with
            | nil => exact absurd rfl nn'
            | cons l ls =>
              cases hfr with
              | nil => simp at a2
              | @cons f' r' fr'' rows'' hf' hfr' =>
                obtain ⟨g1, g2, g3⟩ := hf'
                have mem2 : f'.1 ∈ adr (f :: f' :: fr'') := List.mem_cons_of_mem _ (List.mem_cons_self ..)
                have nR2 : f'.1 ≠ R := fun z => ndR (by rw [← z]; exact List.mem_cons_of_mem _ mem2)
                have nB2 : f'.1 ≠ B := fun z => ndB (z ▸ mem2)
                obtain ⟨ndf2, _⟩ := List.nodup_cons.mp ndfr
                refine ⟨_, rfl, q, _, _, _, rfl, rfl, hq, atI_nat (j := 0) rfl, rfl, _, rfl, ?_⟩
                rw [dstr (by decide +kernel)]
                refine iteF ⟨_, rfl, q, _, _, _, rfl, rfl, hq, atI_nat (j := 0) rfl, rfl, _, rfl, ?_⟩
                rw [dstr (by decide +kernel)]
                refine iteF ?_
                have hR' : H' R = some (.lst (refs (f' :: fr'') ++ [V.ref f.1])) := by
                  rw [← refs_cons]
                  exact N.hR
                have hB' : H' B = some (.lst ((ls.map V.str).reverse ++ [V.str l])) := by
                  have e := N.hB
                  rw [List.map_cons, List.reverse_cons] at e
                  exact e
                have e1 : upd H' R (.lst (refs (f' :: fr'') ++ [V.ref f.1]).dropLast) f.1 = some (.lst f.2) := by
                  rw [upd_ne nfR]
                  exact f1
                refine ⟨_, rfl, .inl ⟨rfl, _, SqL.of hR'⟩, R, _, _, rfl, rfl, hR', pop_last _ _, .inl ⟨f.1, f.2, rfl, SqL.of e1, fun A1 hA1 => ?_⟩⟩
                rw [List.dropLast_concat] at hA1 ⊢
                have e0 : upd H' R (.lst (refs (f' :: fr''))) R = some (.lst (refs (f' :: fr''))) := upd_same
                have e1' : upd H' R (.lst (refs (f' :: fr''))) f'.1 = some (.lst f'.2) := by
                  rw [upd_ne nR2]
                  exact g1
                have eB1 : upd H' R (.lst (refs (f' :: fr''))) B = some (.lst ((ls.map V.str).reverse ++ [V.str l])) := by
                  rw [upd_ne neRB.symm]
                  exact hB'
                have a1R : R ≠ A1 := ne_of_none e0 hA1
                have a1f : f'.1 ≠ A1 := ne_of_none e1' hA1
                have a1B : B ≠ A1 := ne_of_none eB1 hA1
                have r2 : upd (upd H' R (.lst (refs (f' :: fr'')))) A1 (.tup f.2) R = some (.lst (refs (f' :: fr''))) := by
                  rw [upd_ne a1R]
                  exact e0
                have f2' : upd (upd H' R (.lst (refs (f' :: fr'')))) A1 (.tup f.2) f'.1 = some (.lst f'.2) := by
                  rw [upd_ne a1f]
                  exact e1'
                have b2 : upd (upd H' R (.lst (refs (f' :: fr'')))) A1 (.tup f.2) B = some (.lst ((ls.map V.str).reverse ++ [V.str l])) := by
                  rw [upd_ne a1B]
                  exact eB1
                have hlast2 : atI (refs (f' :: fr'')) (-1) = some (V.ref f'.1) := by rw [refs_cons]; exact atI_last _ _
                refine ⟨_, rfl, _, rfl, R, _, _, _, rfl, rfl, SqL.of r2, hlast2, .inl ⟨rfl, _, SqL.of f2'⟩, ?_⟩
                refine ⟨_, rfl, .inl ⟨rfl, _, SqL.of b2⟩, B, _, _, rfl, rfl, b2, pop_last _ _, _, rfl, (by show 3 ≤ sizeLine; decide), fun A2 hA2 => ?_⟩
                rw [List.dropLast_concat] at hA2 ⊢
                have f3' : upd (upd (upd H' R (.lst (refs (f' :: fr'')))) A1 (.tup f.2)) B (.lst (ls.map V.str).reverse) f'.1 = some (.lst f'.2) := by
                  rw [upd_ne nB2]
                  exact f2'
                have a2f : f'.1 ≠ A2 := ne_of_none f3' hA2
                have f4' : upd (upd (upd (upd H' R (.lst (refs (f' :: fr'')))) A1 (.tup f.2)) B (.lst (ls.map V.str).reverse)) A2 (.tup [.str "element", .str l, .ref A1]) f'.1 = some (.lst f'.2) := by
                  rw [upd_ne a2f]
                  exact f3'
                refine ⟨f'.1, _, _, rfl, rfl, f4', small (by omega), ?_⟩
                have wB := N.nw B (by simp)
                have wR := N.nw R (by simp)
                have wf := N.nw f'.1 (by simp [adr])
                have t1 : Tp H' (upd H' R (.lst (refs (f' :: fr'')))) := Tp.lst hR'
                have t2 := t1.trans (Tp.new (o := .tup f.2) hA1)
                have t3 := t2.trans (Tp.lst (o := .lst (ls.map V.str).reverse) b2)
                have t4 := t3.trans (Tp.new (o := .tup [.str "element", .str l, .ref A1]) hA2)
                have t5 := t4.trans (Tp.lst (o := .lst (f'.2 ++ [V.ref A2])) f4')
                have m1 : Sm P H (upd H' R (.lst (refs (f' :: fr'')))) := N.sm.mut wR.1 wR.2
                have m2 := m1.trans (Sm.new (o := .tup f.2) m1.2 hA1)
                have m3 : Sm P H (upd (upd (upd H' R (.lst (refs (f' :: fr'')))) A1 (.tup f.2)) B (.lst (ls.map V.str).reverse)) := m2.mut wB.1 wB.2
                have m4 := m3.trans (Sm.new (o := .tup [.str "element", .str l, .ref A1]) m3.2 hA2)
                have m5 : Sm P H (upd (upd (upd (upd (upd H' R (.lst (refs (f' :: fr'')))) A1 (.tup f.2)) B (.lst (ls.map V.str).reverse)) A2 (.tup [.str "element", .str l, .ref A1])) f'.1 (.lst (f'.2 ++ [V.ref A2]))) := m4.mut wf.1 wf.2
                have bA1 : A1 ≠ B := a1B.symm
                have a12 : A1 ≠ A2 := ne_of_none (o := .tup f.2) (by rw [upd_ne bA1, upd_same]) hA2
                have rA2 : R ≠ A2 := ne_of_none (o := .lst (refs (f' :: fr''))) (by rw [upd_ne neRB]; exact r2) hA2
                have bA2 : B ≠ A2 := ne_of_none upd_same hA2
                have k5 : ∀ x, x ≠ f'.1 → x ≠ A2 → x ≠ B → x ≠ A1 → x ≠ R → upd (upd (upd (upd (upd H' R (.lst (refs (f' :: fr'')))) A1 (.tup f.2)) B (.lst (ls.map V.str).reverse)) A2 (.tup [.str "element", .str l, .ref A1])) f'.1 (.lst (f'.2 ++ [V.ref A2])) x = H' x :=
                  fun x h1 h2 h3 h4 h5 => by rw [upd_ne h1, upd_ne h2, upd_ne h3, upd_ne h4, upd_ne h5]
                refine ⟨(f'.1, f'.2 ++ [V.ref A2]) :: fr'', _, _, rfl, ⟨m5, N.tp.trans t5, ?_, ?_, .cons ⟨upd_same, ?_, ?_⟩ (Frs.mono t5 (Nat.le_succ _) (fun x hx => ?_) hfr'), ?_, ?_, ?_, ?_⟩⟩
                · rw [upd_ne nR2.symm, upd_ne rA2, upd_ne neRB, upd_ne a1R, upd_same]
                  rfl
                · rw [upd_ne nB2.symm, upd_ne bA2, upd_same]
                  rfl
                · show DpAll K _ (f'.2 ++ [V.ref A2]) (ndsD (r' ++ [.el l r]))
                  rw [ndsD_append]
                  refine all_append (nds_tp t5 _ _ g2) ?_
                  rw [ndsD, ndsD]
                  refine .cons (nd_el_mk (b := A1) (ys := f.2) ?_ ?_ (nds_tp t5 _ _ f2)) .nil
                  · exact .inl (.inl (by rw [upd_ne a2f.symm, upd_same]))
                  · exact .inl (.inl (by rw [upd_ne a1f.symm, upd_ne a12, upd_ne bA1, upd_same]))
                · show (f'.2 ++ [V.ref A2]).length ≤ i + 1
                  rw [List.length_append, List.length_singleton]
                  omega
                · have hx' : x.1 ∈ adr fr'' := List.mem_map_of_mem hx
                  have hx2 : x.1 ∈ adr (f :: f' :: fr'') := List.mem_cons_of_mem _ (List.mem_cons_of_mem _ hx')
                  have ndf2' : f'.1 ∉ adr fr'' := ndf2
                  have xf : x.1 ≠ f'.1 := fun z => ndf2' (z ▸ hx')
                  have xB : x.1 ≠ B := fun z => ndB (z ▸ hx2)
                  have xR : x.1 ≠ R := fun z => ndR (by rw [← z]; exact List.mem_cons_of_mem _ hx2)
                  obtain ⟨j, hj⟩ := List.mem_iff_getElem?.mp hx
                  obtain ⟨_, _, q1, _⟩ := paired_get hfr' hj
                  have xA1 : x.1 ≠ A1 := ne_of_none (o := .lst x.2) (by rw [upd_ne xR]; exact q1) hA1
                  have xA2 : x.1 ≠ A2 := ne_of_none (o := .lst x.2) (by rw [upd_ne xB, upd_ne xA1, upd_ne xR]; exact q1) hA2
                  exact k5 _ xf xA2 xB xA1 xR
                · refine List.nodup_cons.mpr ⟨fun z => ?_, List.nodup_cons.mpr ⟨fun z => ?_, ndfr⟩⟩
                  · rcases List.mem_cons.mp z with z | z
                    · exact neRB z
                    · exact ndR (List.mem_cons_of_mem _ (List.mem_cons_of_mem _ z))
                  · exact ndB (List.mem_cons_of_mem _ z)
                · intro a ha
                  refine N.nw a ?_
                  rcases List.mem_cons.mp ha with z | z
                  · rw [z]; exact List.mem_cons_self ..
                  · rcases List.mem_cons.mp z with z | z
                    · rw [z]; exact List.mem_cons_of_mem _ (List.mem_cons_self ..)
                    · exact List.mem_cons_of_mem _ (List.mem_cons_of_mem _ (List.mem_cons_of_mem _ z))
                · have := N.ll
                  show ls.length ≤ i + 1
                  simp at this
                  omega
                · have := N.lr
                  show ((r' ++ [.el l r]) :: rows'').length ≤ i + 1 + 1
                  simp at this ⊢
                  omega
    · rintro σ H' ⟨fr, v3, v4, rfl, N⟩
      rw [lx, List.take_length] at N
      obtain ⟨a1, a2, a3⟩ := along gs.length (Nat.le_refl _)
      rw [List.take_length] at a1 a2 a3
      rw [List.drop_length] at a3
      have e3 : (((nAll gs).2.length : Nat) : Int) = lv := Sum.inr.inj a3
      have lv0 : ¬ lv > 0 := fun z => by
        unfold isEnd at hend
        rw [hlv] at hend
        have h' : (!decide (lv > 0)) = true := hend
        rw [decide_eq_true z] at h'
        cases h'
      have hn : nodesOf gs = (match nAll gs with | (r :: _, _) => r | _ => []) := rfl
      rw [hn] at k
      generalize nAll gs = ns at N a2 e3 k
      obtain ⟨rows, labels⟩ := ns
      have z2 : labels = [] := List.eq_nil_of_length_eq_zero (by have : ((labels.length : Nat) : Int) = lv := e3; omega)
      subst z2
      have hfs := N.fs
      cases rows with
      | nil => simp at a2
      | cons r rows =>
        cases rows with
        | cons r2 rows => simp at a2
        | nil =>
          cases hfs with
          | @cons f _ fr' _ hf hfr =>
            cases hfr
            obtain ⟨f1, f2, f3⟩ := hf
            refine ⟨_, rfl, R, _, _, _, rfl, rfl, SqL.of N.hR, atI_nat (j := 0) rfl, .inl ⟨f.1, f.2, rfl, SqL.of f1, fun A1 hA1 => ?_⟩⟩
            exact k _ _ (N.sm.trans (Sm.new N.sm.2 hA1)) (.tup (.inl (.inl upd_same)) (nds_tp (Tp.new hA1) _ _ f2))
end
end K6

set_option maxRecDepth 100000
set_option maxHeartbeats 4000000
namespace K6
open PySem PySem.Spec PyProof.Rows L2 So
def isTx : Nd → Bool
  | .tx _ => true
  | .el _ _ => false
theorem sgok_op {l : Str} (h : Sg.ok (.op l) = true) : isLab l = true ∧ l.length ≤ 12 := by
  have q : (isLab l && decide (l.length ≤ 12)) = true := h
  rw [Bool.and_eq_true] at q
  exact ⟨q.1, of_decide_eq_true q.2⟩
theorem sgok_tx {z : Str} (h : Sg.ok (.tx z) = true) : z.length ≤ 65535 := of_decide_eq_true h
section
variable {Pg : Program} {w : World} {K : PySem.W.Frag} {mg : Str → Option Value} {base : Heap} {P : Addr}
/-! ### document_of -/
abbrev sDoc : Stmt := top 32
theorem scDoc : FnScope ["stream"] ["stream"] (defScope sDoc) := ⟨rfl, rfl, rfl, by decide +kernel, rfl, by decide +kernel, by decide +kernel⟩
def spDoc (K : PySem.W.Frag) (P : Addr) : Sp := Pu P fun vs H R => ∃ (p : Addr) (xs : List V) (gs : List Sg), vs = [.ref p] ∧ RowAt K H p xs gs ∧ gs.length ≤ 1000 ∧ isEnd 0 gs = true ∧ R = fun v H' => Dp K H' v (.tuple (ndsD (nodesOf gs)))
theorem ok_doc {f fN fC C : Addr} {fd fdN fdC : FuncData} (F : Fun K "document_of" "document_of" sDoc f fd) (T : Tx K mg) (N : Df K mg "_nodes_of" sNod ["signs"] fN fdN)
    (R : Df K mg "check_stream" sCst ["value"] fC fdC) (GR : FnOk Pg w K mg base (L2.CX Pg w) 6 fC fdC ["value"] (spCst K P C)) :
    FnOk Pg w K mg base (L2.CX Pg w) 7 f fd ["stream"] (spDoc K P) := by
  have GN : FnOk Pg w K mg base CX0 1 fN fdN ["signs"] (spNod K P) := ok_nod N.F T
  refine F.okX scDoc (fun vs H Q E h => ?_) (fun cdv A outer s H vs Q E hr h => ?_)
  · obtain ⟨_, _, ⟨_, _, _, rfl, _⟩, _⟩ := h
    rfl
  · obtain ⟨t, _, ⟨p, xs, gs, rfl, hR, hl, he, rfl⟩, k⟩ := h
    refine ⟨_, pss_one (ps_ret (pe_call GN (hr.mono (by decide)) (by rfl) N.g N.F.kp N.b .nil pass0 (pa_cons (pe_call GR hr (by rfl) R.g R.F.kp R.b .nil (passes_call (takes_of rfl rfl rfl rfl) fun _ _ _ _ h => h) (pa_cons (pv 0) pa_nil)) pa_nil))), ?_⟩
    refine ⟨_, rfl, t, p, xs, gs, rfl, hR, wish_of (fun e => by rw [he] at e; cases e) (fun _ q H1 s1 e1 => ?_)⟩
    refine ⟨s1.2, _, ⟨q, xs, gs, rfl, ⟨.inl (.inl e1), sgs_mono t s1 hR.2.1, hR.2.2⟩, hl, he, rfl⟩, fun v H2 s2 d => k v H2 (s1.trans s2) d⟩
/-! ### _is_text_node -/
abbrev sItn : Stmt := top 28
theorem scItn : FnScope ["value"] ["value"] (defScope sItn) := ⟨rfl, rfl, rfl, by decide +kernel, rfl, by decide +kernel, by decide +kernel⟩
def spItn (K : PySem.W.Frag) (P : Addr) : Sp := Pu P fun vs H R => ∃ (v : V) (d : Nd), vs = [v] ∧ Dp K H v (ndD d) ∧ (sgN d).all Sg.ok = true ∧ R = fun v _ => v = .bl (isTx d)
theorem ok_itn {f fS fR fT : Addr} {fd fdS fdR fdT : FuncData} (F : Fun K "_is_text_node" "_is_text_node" sItn f fd) (T : Tx K mg)
    (S : Df K mg "is_sequence" sSeq ["value"] fS fdS) (R : Df K mg "is_row_of" sRow ["value", "many"] fR fdR) (X : Df K mg "is_text" sTxt ["value"] fT fdT) : FnOk Pg w K mg base CX0 3 f fd ["value"] (spItn K P) := by
  have GR : FnOk Pg w K mg base CX0 2 fR fdR ["value", "many"] (spRow K P) := ok_row R.F T S
  have GX : FnOk Pg w K mg base CX0 1 fT fdT ["value"] (spTxt P) := ok_txt X.F T
  refine F.ok scItn (fun vs H Q E h => ?_) (fun cdv A outer s H vs Q E hr h => ?_)
  · obtain ⟨_, _, ⟨_, _, rfl, _⟩, _⟩ := h
    rfl
  · obtain ⟨t, _, ⟨v, d, rfl, hd, hok, rfl⟩, k⟩ := h
    refine ⟨_, pss_one (ps_ret (pe_and (pe_call GR hr (by rfl) R.g R.F.kp R.b .nil pass0 (pa_cons (pv 0) (pa_cons pe_int pa_nil)))
      (pe_and (pe_cmpR op_eq (pe_ix ix_tup (pv 0) pe_int (fun _ _ => rfl)) pe_str (nomark _)) (pe_one (pe_call GX (hr.mono (by decide)) (by rfl) X.g X.F.kp X.b .nil pass0 (pa_cons (pe_ix ix_tup (pv 0) pe_int (fun _ _ => rfl)) pa_nil)))))), ?_⟩
    cases d with
    | tx z =>
      obtain ⟨a, rfl, ha⟩ := nd_tx hd
      have hz : z.length ≤ 65535 := sgok_tx (by simpa [sgN] using hok)
      refine ⟨_, rfl, t, _, ⟨a, _, _, rfl, ha, rfl⟩, fun v H1 s1 e => ⟨true, e, iteT ?_⟩⟩
      refine ⟨_, rfl, a, _, _, _, rfl, rfl, s1.tup t ha, atI_nat (j := 0) rfl, rfl, true, rfl, iteT ?_⟩
      refine ⟨_, rfl, a, _, _, _, rfl, rfl, s1.tup t ha, atI_nat (j := 1) rfl, s1.2, _, ⟨z, rfl, sz65 hz, rfl⟩, fun v H2 s2 e2 => ?_⟩
      exact k _ _ (s1.trans s2) (by rw [e2, decide_eq_true (by omega)]; rfl)
    | el l ds =>
      obtain ⟨a, b, ys, rfl, ha, hb, hc⟩ := nd_el hd
      refine ⟨_, rfl, t, _, ⟨a, _, _, rfl, ha, rfl⟩, fun v H1 s1 e => ⟨false, e, iteF ?_⟩⟩
      exact k _ _ s1 rfl
/-! ### _is_element_node, of an element -/
abbrev sIen' : Stmt := top 29
theorem scIel : FnScope ["value"] ["value"] (defScope sIen') := ⟨rfl, rfl, rfl, by decide +kernel, rfl, by decide +kernel, by decide +kernel⟩
def spIel (K : PySem.W.Frag) (P : Addr) : Sp := Pu P fun vs H R => ∃ (v : V) (l : Str) (ds : List Nd), vs = [v] ∧ Dp K H v (ndD (.el l ds)) ∧ Sg.ok (.op l) = true ∧ R = fun v _ => v = .bl true
theorem ok_iel {f fS fR fL c : Addr} {fd fdS fdR fdL : FuncData} (F : Fun K "_is_element_node" "_is_element_node" sIen' f fd) (T : Tx K mg) (TB : GxR.TabB base mg c P)
    (S : Df K mg "is_sequence" sSeq ["value"] fS fdS) (R : Df K mg "is_row_of" sRow ["value", "many"] fR fdR) (L : DfC K mg "is_label" sLab ["value"] fL fdL c) : FnOk Pg w K mg base CX0 3 f fd ["value"] (spIel K P) := by
  have GR : FnOk Pg w K mg base CX0 2 fR fdR ["value", "many"] (spRow K P) := ok_row R.F T S
  have GS : FnOk Pg w K mg base CX0 1 fS fdS ["value"] (spSeq K P) := ok_seq S.F T
  have GL : FnOk Pg w K mg base CX0 1 fL fdL ["value"] (spLab P) := ok_lab L T TB
  refine F.ok scIel (fun vs H Q E h => ?_) (fun cdv A outer s H vs Q E hr h => ?_)
  · obtain ⟨_, _, ⟨_, _, _, rfl, _⟩, _⟩ := h
    rfl
  · obtain ⟨t, _, ⟨v, l, ds, rfl, hd, hok, rfl⟩, k⟩ := h
    have hr1 : Room 1 _ := hr.mono (by decide)
    refine ⟨_, pss_one (ps_ret (pe_and (pe_call GR hr (by rfl) R.g R.F.kp R.b .nil pass0 (pa_cons (pv 0) (pa_cons pe_int pa_nil)))
      (pe_and (pe_cmpR op_eq (pe_ix ix_tup (pv 0) pe_int (fun _ _ => rfl)) pe_str (nomark _))
      (pe_and (pe_call GL hr1 (by rfl) L.g L.kp L.b .nil pass0 (pa_cons (pe_ix ix_tup (pv 0) pe_int (fun _ _ => rfl)) pa_nil))
      (pe_one (pe_call GS hr1 (by rfl) S.g S.F.kp S.b .nil pass0 (pa_cons (pe_ix ix_tup (pv 0) pe_int (fun _ _ => rfl)) pa_nil))))))), ?_⟩
    obtain ⟨a, b, ys, rfl, ha, hb, hc⟩ := nd_el hd
    obtain ⟨hl1, hl2⟩ := sgok_op hok
    refine ⟨_, rfl, t, _, ⟨a, _, _, rfl, ha, rfl⟩, fun v H1 s1 e => ⟨true, e, iteT ?_⟩⟩
    refine ⟨_, rfl, a, _, _, _, rfl, rfl, s1.tup t ha, atI_nat (j := 0) rfl, rfl, true, rfl, iteT ?_⟩
    refine ⟨_, rfl, a, _, _, _, rfl, rfl, s1.tup t ha, atI_nat (j := 1) rfl, s1.2, _, ⟨l, rfl, sz12 hl2, rfl⟩, fun v H2 s2 e2 => ⟨true, by rw [e2, hl1], iteT ?_⟩⟩
    have s3 := s1.trans s2
    refine ⟨_, rfl, a, _, _, _, rfl, rfl, s3.tup t ha, atI_nat (j := 2) rfl, s3.2, _, ⟨b, ys, rfl, s3.tup t hb, rfl⟩, fun v H3 s4 e3 => ?_⟩
    exact k _ _ (s3.trans s4) e3
end
/-! ### the mirror of signs_of -/
def rest : List (List Nd) → List Sg
  | [] => []
  | [w] => sgs w
  | w :: x :: ws => sgs w ++ .cl :: rest (x :: ws)
mutual
def cntN : Nd → Nat
  | .tx _ => 1
  | .el _ ds => cntS ds + 1
def cntS : List Nd → Nat
  | [] => 0
  | d :: r => cntN d + cntS r
end
def cntW : List (List Nd) → Nat
  | [] => 0
  | w :: ws => cntS w + cntW ws
theorem rest_nil {x : List Nd} {ws : List (List Nd)} : rest ([] :: x :: ws) = .cl :: rest (x :: ws) := by
  simp [rest, sgs]
theorem rest_tx {z : Str} {w : List Nd} {ws : List (List Nd)} : rest ((.tx z :: w) :: ws) = .tx z :: rest (w :: ws) := by
  cases ws <;> simp [rest, sgs, sgN]
theorem rest_el {l : Str} {ds w : List Nd} {ws : List (List Nd)} : rest ((.el l ds :: w) :: ws) = .op l :: rest (ds :: w :: ws) := by
  cases ws <;> simp [rest, sgs, sgN]
theorem cnt_tx {z : Str} {w : List Nd} {ws : List (List Nd)} : cntW (w :: ws) < cntW ((.tx z :: w) :: ws) := by
  simp [cntW, cntS, cntN] <;> omega
theorem cnt_el {l : Str} {ds w : List Nd} {ws : List (List Nd)} : cntW (ds :: w :: ws) < cntW ((.el l ds :: w) :: ws) := by
  simp [cntW, cntS, cntN] <;> omega
end K6

set_option maxRecDepth 100000
set_option maxHeartbeats 4000000
namespace K6
open PySem PySem.Spec PyProof.Rows L2 So
def Wrs (K : PySem.W.Frag) (H0 H : Hp) : List (Addr × List V) → List (List Nd) → Prop := Paired fun f w => H f.1 = some (.lst f.2.reverse) ∧ DpAll K H0 f.2 (ndsD w)
theorem Wrs.mono {K : PySem.W.Frag} {H0 H H' : Hp} : ∀ {fr : List (Addr × List V)} {ws : List (List Nd)}, (∀ f ∈ fr, H' f.1 = H f.1) → Wrs K H0 H fr ws → Wrs K H0 H' fr ws
  | _, _, _, .nil => .nil
  | f :: _, _, h, .cons a b => .cons ⟨by rw [h f (List.mem_cons_self ..)]; exact a.1, a.2⟩ (Wrs.mono (fun x hx => h x (List.mem_cons_of_mem _ hx)) b)
/-- between two nodes: S the list of signs, W that of what waits -/
structure WInv (K : PySem.W.Frag) (P : Addr) (H0 H : Hp) (S W : Addr) (fr : List (Addr × List V)) (ws : List (List Nd)) (out whole : List Sg) (outs : List V) : Prop where
  sm : Sm P H0 H
  hS : H S = some (.lst outs)
  os : Paired (SgV K H) outs out
  hW : H W = some (.lst (refs fr))
  wr : Wrs K H0 H fr ws
  nd : (S :: W :: adr fr).Nodup
  nw : ∀ a ∈ S :: W :: adr fr, H0 a = none ∧ a ≠ P
  eq : out ++ rest ws = whole
  le : fr.length ≤ out.length + 1
theorem sgs_tp {K : PySem.W.Frag} {H H' : Hp} (s : Tp H H') {xs : List V} {gs : List Sg} (h : Paired (SgV K H) xs gs) : Paired (SgV K H') xs gs :=
  paired_mono (fun _ _ ⟨q, e, h⟩ => ⟨q, e, s.sq h⟩) h
theorem paired_append {α β : Type} {R : α → β → Prop} : ∀ {xs xs' : List α} {ys ys' : List β}, Paired R xs ys → Paired R xs' ys' → Paired R (xs ++ xs') (ys ++ ys')
  | [], _, _, _, .nil, h => h
  | _ :: _, _, _, _, .cons a b, h => .cons a (paired_append b h)
section
variable {Pg : Program} {w : World} {K : PySem.W.Frag} {mg : Str → Option Value} {base : Heap} {P : Addr}
abbrev sSig : Stmt := top 30
theorem scSig : FnScope ["document", "signs", "many", "waiting", "node"] ["document"] (defScope sSig) := ⟨rfl, rfl, rfl, by decide +kernel, rfl, by decide +kernel, by decide +kernel⟩
def spSig (K : PySem.W.Frag) (P : Addr) : Sp := Pu P fun vs H R => ∃ (a : Addr) (xs : List V) (ds : List Nd), vs = [.ref a] ∧ SqT K H a xs ∧ DpAll K H xs (ndsD ds) ∧ (sgs ds).all Sg.ok = true ∧ (sgs ds).length ≤ 1000 ∧ R = fun v H' => ∃ q ys, v = .ref q ∧ RowAt K H' q ys (sgs ds)
theorem ok_sig {f fS fX fE : Addr} {fd fdS fdX fdE : FuncData} (F : Fun K "signs_of" "signs_of" sSig f fd) (T : Tx K mg) (S : Df K mg "is_sequence" sSeq ["value"] fS fdS)
    (X : Df K mg "_is_text_node" sItn ["value"] fX fdX) (GX : FnOk Pg w K mg base CX0 3 fX fdX ["value"] (spItn K P))
    (L : Df K mg "_is_element_node" sIen' ["value"] fE fdE) (GL : FnOk Pg w K mg base CX0 3 fE fdE ["value"] (spIel K P)) : FnOk Pg w K mg base CX0 4 f fd ["document"] (spSig K P) := by
  have GS : FnOk Pg w K mg base CX0 1 fS fdS ["value"] (spSeq K P) := ok_seq S.F T
  refine F.ok scSig (fun vs H Q E h => ?_) (fun cdv A outer s H vs Q E hr h => ?_)
  · obtain ⟨_, _, ⟨_, _, _, rfl, _⟩, _⟩ := h
    rfl
  · obtain ⟨t, _, ⟨a, xs, ds, rfl, hx, hds, hok, hlen, rfl⟩, k⟩ := h
    have hr1 : Room 1 _ := hr.mono (by decide)
    refine ⟨_, pss_cons (ps_if (pt_not (pt_val (pe_call GS hr1 (by rfl) S.g S.F.kp S.b .nil pass0 (pa_cons (pv 0) pa_nil)))) pss_never pss_nil)
      (pss_cons (ps_set (i := 1) scSig.nd rfl (Or.inl rfl) (pe_lst pa_nil))
      (pss_cons (ps_set (i := 2) scSig.nd rfl (Or.inl rfl) pe_int)
      (pss_cons (ps_set (i := 3) scSig.nd rfl (Or.inl rfl) (pe_lst (pa_cons (SoRv.pe_lstRev rfl (by rfl) T.list (by rfl) T.reversed (pv 0)) pa_nil)))
      (pss_one (ps_while PassesOwn.never (pt_val pe_bl)
        (pss_cons (ps_while PassesOwn.never (pt_cmpR op_eq (pe_callB call_len_seq (by rfl) T.len (by decide +kernel) (pa_cons (pe_ix ix_list (pv 3) (pe_un un_neg pe_int) (fun _ _ => rfl)) pa_nil)) pe_int (nomark _))
            (pss_cons (ps_expr (pe_bm0 PySem.F.plainAttrs_list PySem.F.slot_list_pop PySem.F.type_list_pop mt_pop (pv 3)))
            (pss_cons (ps_if (pt_cmpR op_eq (pe_callB call_len_seq (by rfl) T.len (by decide +kernel) (pa_cons (pv 3) pa_nil)) pe_int (nomark _)) (pss_one (ps_ret (pe_tupleOf (by rfl) T.tuple (pv 1)))) pss_nil)
            (pss_one (ps_expr (pe_bm PySem.F.plainAttrs_list PySem.F.slot_list_append PySem.F.type_list_append mt_append (pv 1) (pa_cons (pe_tup (pa_cons pe_str pa_nil)) pa_nil)))))))
        (pss_cons (ps_set (i := 4) scSig.nd rfl (Or.inl rfl) (pe_bm0 PySem.F.plainAttrs_list PySem.F.slot_list_pop PySem.F.type_list_pop mt_pop (pe_ix ix_list (pv 3) (pe_un un_neg pe_int) (fun _ _ => rfl))))
        (pss_cons (ps_if (pt_val (pe_call GX hr (by rfl) X.g X.F.kp X.b .nil pass0 (pa_cons (pv 4) pa_nil)))
            (pss_one (ps_expr (pe_bm PySem.F.plainAttrs_list PySem.F.slot_list_append PySem.F.type_list_append mt_append (pv 1) (pa_cons (pe_tup (pa_cons pe_str (pa_cons (pe_ix ix_tup (pv 4) pe_int (fun _ _ => rfl)) pa_nil))) pa_nil))))
            (pss_one (ps_if (pt_val (pe_call GL hr (by rfl) L.g L.F.kp L.b .nil pass0 (pa_cons (pv 4) pa_nil)))
              (pss_cons (ps_expr (pe_bm PySem.F.plainAttrs_list PySem.F.slot_list_append PySem.F.type_list_append mt_append (pv 1) (pa_cons (pe_tup (pa_cons pe_str (pa_cons (pe_ix ix_tup (pv 4) pe_int (fun _ _ => rfl)) pa_nil))) pa_nil)))
                (pss_one (ps_expr (pe_bm PySem.F.plainAttrs_list PySem.F.slot_list_append PySem.F.type_list_append mt_append (pv 3) (pa_cons (SoRv.pe_lstRev rfl (by rfl) T.list (by rfl) T.reversed (pe_ix ix_tup (pv 4) pe_int (fun _ _ => rfl))) pa_nil)))))
              pss_never)))
        (pss_one (ps_aug (i := 2) scSig.nd rfl (.inl rfl) pe_int ip_add)))))))))), ?_⟩
    have small : ∀ {n : Nat}, n ≤ 1002 → n < sizeLine := fun h => Nat.lt_of_le_of_lt h (by decide)
    refine ⟨_, rfl, t, _, ⟨a, xs, rfl, hx, rfl⟩, fun v H1 s1 e => ⟨true, e, iteF ?_⟩⟩
    refine ⟨Nat.zero_le _, fun S hS => ?_⟩
    have s2 : Sm P H (upd H1 S (.lst [])) := s1.trans (Sm.new s1.2 hS)
    refine ⟨_, rfl, a, xs, rfl, s2.tup t hx, fun A1 hA1 => ⟨(by show 1 ≤ sizeLine; decide), fun W hW => ?_⟩⟩
    have s3 := s2.trans (Sm.new (o := .lst xs.reverse) s2.2 hA1)
    have s4 := s3.trans (Sm.new (o := .lst [.ref A1]) s3.2 hW)
    have nP : ∀ {H' : Hp} {a : Addr}, GxR.TabG H' P → H' a = none → a ≠ P := fun t e z => by
      obtain ⟨ps, q, _⟩ := t
      rw [z, q] at e
      cases e
    have nSA : S ≠ A1 := ne_of_none upd_same hA1
    have nAW : A1 ≠ W := ne_of_none upd_same hW
    have nSW : S ≠ W := ne_of_none (o := .lst []) (by rw [upd_ne nSA, upd_same]) hW
    have start : WInv K P H (upd (upd (upd H1 S (.lst [])) A1 (.lst xs.reverse)) W (.lst [.ref A1])) S W [(A1, xs)] [ds] [] (sgs ds) [] := {
      sm := s4
      hS := by rw [upd_ne nSW, upd_ne nSA, upd_same]
      os := .nil
      hW := upd_same
      wr := .cons ⟨by rw [upd_ne nAW, upd_same], hds⟩ .nil
      nd := by simp [adr, nSW, nSA, nAW.symm]
      nw := fun b hb => by
        have : b = S ∨ b = W ∨ b = A1 := by simpa [adr] using hb
        rcases this with z | z | z
        · rw [z]; exact ⟨s1.free t hS, nP s1.2 hS⟩
        · rw [z]; exact ⟨s3.free t hW, nP s3.2 hW⟩
        · rw [z]; exact ⟨s2.free t hA1, nP s2.2 hA1⟩
      eq := rfl
      le := Nat.le_refl _ }
    refine ⟨fun m σ H' => ∃ (fr : List (Addr × List V)) (ws : List (List Nd)) (out : List Sg) (outs : List V) (mn : Int) (v4 : Option V), σ = [some (.ref a), some (.ref S), some (.int mn), some (.ref W), v4] ∧ WInv K P H H' S W fr ws out (sgs ds) outs ∧ ws ≠ [] ∧ m = cntW ws,
      ⟨_, [(A1, xs)], [ds], [], [], 0, none, rfl, start, by simp, rfl⟩, ?_⟩
    rintro m σ H' ⟨fr, ws, out, outs, mn, v4, rfl, N, hne, rfl⟩
    refine ⟨true, rfl, iteT ?_⟩
    refine ⟨fun σ' H'' => ∃ (fr' : List (Addr × List V)) (ws' : List (List Nd)) (out' : List Sg) (outs' : List V) (mn : Int) (v4 : Option V), σ' = [some (.ref a), some (.ref S), some (.int mn), some (.ref W), v4] ∧ WInv K P H H'' S W fr' ws' out' (sgs ds) outs' ∧ ws' ≠ [] ∧ cntW ws' < cntW ws,
      fun σ' H'' ⟨fr', ws', out', outs', mn, v4, e1, N', h1, h2⟩ => ⟨cntW ws', h2, fr', ws', out', outs', mn, v4, e1, N', h1, rfl⟩, ?_⟩
    -- the inner while
    refine ⟨fun m σ H' => ∃ (fr' : List (Addr × List V)) (ws' : List (List Nd)) (out' : List Sg) (outs' : List V) (v4 : Option V), σ = [some (.ref a), some (.ref S), some (.int mn), some (.ref W), v4] ∧ WInv K P H H' S W fr' ws' out' (sgs ds) outs' ∧ ws' ≠ [] ∧ cntW ws' = cntW ws ∧ m = ws'.length,
      ⟨_, fr, ws, out, outs, v4, rfl, N, hne, rfl, rfl⟩, ?_⟩
    clear N hne
    rintro m σ H' ⟨fr, ws', out, outs, v4, rfl, N, hne, hcnt, rfl⟩
    have hwr := N.wr
    have hl : out.length ≤ 1000 := by
      have e := congrArg List.length N.eq
      rw [List.length_append] at e
      omega
    have lo : outs.length = out.length := Paired.length N.os
    obtain ⟨ndS, nd1⟩ := List.nodup_cons.mp N.nd
    obtain ⟨ndW, nda⟩ := List.nodup_cons.mp nd1
    have neSW : S ≠ W := fun z => ndS (by rw [z]; exact List.mem_cons_self ..)
    cases hwr with
    | nil => exact absurd rfl hne
    | @cons f w fr' ws'' hf hfr =>
      obtain ⟨f1, f2⟩ := hf
      obtain ⟨ndf, ndfr⟩ := List.nodup_cons.mp nda
      have nfS : f.1 ≠ S := fun z => ndS (by rw [← z]; exact List.mem_cons_of_mem _ (List.mem_cons_self ..))
      have nfW : f.1 ≠ W := fun z => ndW (by rw [← z]; exact List.mem_cons_self ..)
      have wS := N.nw S (by simp)
      have wW := N.nw W (by simp)
      have wf := N.nw f.1 (by simp [adr])
      have hlast : atI (refs (f :: fr')) (-1) = some (V.ref f.1) := by rw [refs_cons]; exact atI_last _ _
      have hW' : H' W = some (.lst (refs fr' ++ [V.ref f.1])) := by
        rw [← refs_cons]
        exact N.hW
      refine ⟨_, rfl, _, rfl, W, _, _, _, rfl, rfl, SqL.of N.hW, hlast, f.1, _, rfl, .inl (SqL.of f1), rfl, _, rfl, ?_⟩
      have sub2 : ∀ x ∈ fr', x.1 ∈ adr (f :: fr') := fun x hx => List.mem_cons_of_mem _ (List.mem_map_of_mem hx)
      have xS : ∀ x ∈ fr', x.1 ≠ S := fun x hx z => ndS (by rw [← z]; exact List.mem_cons_of_mem _ (sub2 x hx))
      have xW : ∀ x ∈ fr', x.1 ≠ W := fun x hx z => ndW (by rw [← z]; exact sub2 x hx)
      have ndf' : f.1 ∉ adr fr' := ndf
      have xf : ∀ x ∈ fr', x.1 ≠ f.1 := fun x hx z => ndf' (by rw [← z]; exact List.mem_map_of_mem hx)
      have xat : ∀ x ∈ fr', ∃ u, H' x.1 = some (.lst u) := fun x hx => by
        obtain ⟨j, hj⟩ := List.mem_iff_getElem?.mp hx
        obtain ⟨_, _, q1, _⟩ := paired_get hfr hj
        exact ⟨_, q1⟩
      cases w with
      | nil =>
        have e0 : f.2 = [] := by
          rw [ndsD] at f2
          exact all_nil' f2
        rw [e0]
        refine iteT ?_
        refine ⟨fun σ' H'' => ∃ (fr2 : List (Addr × List V)) (ws2 : List (List Nd)) (out2 : List Sg) (outs2 : List V) (v4 : Option V), σ' = [some (.ref a), some (.ref S), some (.int mn), some (.ref W), v4] ∧ WInv K P H H'' S W fr2 ws2 out2 (sgs ds) outs2 ∧ ws2 ≠ [] ∧ cntW ws2 = cntW ws ∧ ws2.length < ([] :: ws'').length,
          fun σ' H'' ⟨fr2, ws2, out2, outs2, v4, e1, N', h1, h2, h3⟩ => ⟨ws2.length, h3, fr2, ws2, out2, outs2, v4, e1, N', h1, h2, rfl⟩, ?_⟩
        refine ⟨_, rfl, .inl ⟨rfl, _, SqL.of hW'⟩, W, _, _, rfl, rfl, hW', pop_last _ _, ?_⟩
        rw [List.dropLast_concat]
        have hW2 : upd H' W (.lst (refs fr')) W = some (.lst (refs fr')) := upd_same
        have hS2 : upd H' W (.lst (refs fr')) S = some (.lst outs) := by
          rw [upd_ne neSW]
          exact N.hS
        have t2 : Tp H' (upd H' W (.lst (refs fr'))) := Tp.lst hW'
        have m2 : Sm P H (upd H' W (.lst (refs fr'))) := N.sm.mut wW.1 wW.2
        refine ⟨_, rfl, W, _, rfl, .inl (SqL.of hW2), rfl, _, rfl, ?_⟩
        cases hfr with
        | nil =>
          refine iteT ⟨_, rfl, .inl ⟨S, outs, rfl, SqL.of hS2, fun q hq => ?_⟩⟩
          have eo : out = sgs ds := by
            have := N.eq
            simp [rest, sgs] at this
            exact this
          refine k _ _ (m2.trans (Sm.new m2.2 hq)) ⟨q, outs, rfl, .inl (.inl upd_same), ?_, hok, by omega⟩
          rw [← eo]
          exact sgs_tp (t2.trans (Tp.new hq)) N.os
        | @cons f' w' fr'' ws3 hf' hfr' =>
          rw [show (decide (V.int (((refs (f' :: fr'')).length : Nat) : Int) = V.int 0)) = false from decide_eq_false (fun z => by
            have z' := V.int.inj z
            rw [refs_len, List.length_cons] at z'
            omega)]
          refine iteF ⟨_, rfl, .inl ⟨rfl, _, SqL.of hS2⟩, (by show 1 ≤ sizeLine; decide), fun T1 hT1 => ?_⟩
          have nS1 : S ≠ T1 := ne_of_none hS2 hT1
          have nW1 : W ≠ T1 := ne_of_none hW2 hT1
          have hS3 : upd (upd H' W (.lst (refs (f' :: fr'')))) T1 (.tup [.str "close"]) S = some (.lst outs) := by
            rw [upd_ne nS1]
            exact hS2
          refine ⟨S, _, _, rfl, rfl, hS3, small (by omega), ?_⟩
          have t3 := t2.trans (Tp.new (o := .tup [.str "close"]) hT1)
          have t4 := t3.trans (Tp.lst (o := .lst (outs ++ [V.ref T1])) hS3)
          have m3 := m2.trans (Sm.new (o := .tup [.str "close"]) m2.2 hT1)
          have m4 : Sm P H (upd (upd (upd H' W (.lst (refs (f' :: fr'')))) T1 (.tup [.str "close"])) S (.lst (outs ++ [V.ref T1]))) := m3.mut wS.1 wS.2
          refine ⟨f' :: fr'', w' :: ws3, out ++ [.cl], outs ++ [V.ref T1], _, rfl, ⟨m4, upd_same, ?_, ?_, Wrs.mono (fun x hx => ?_) (.cons hf' hfr'), ?_, ?_, ?_, ?_⟩, by simp, by rw [← hcnt]; simp [cntW, cntS], by simp⟩
          · refine paired_append (sgs_tp t4 N.os) (.cons ⟨T1, rfl, .inl (.inl ?_)⟩ .nil)
            rw [upd_ne nS1.symm, upd_same]
            rfl
          · rw [upd_ne neSW.symm, upd_ne nW1, upd_same]
          · obtain ⟨u, hu⟩ := xat x hx
            have x1 : x.1 ≠ T1 := ne_of_none (o := .lst u) (by rw [upd_ne (xW x hx)]; exact hu) hT1
            rw [upd_ne (xS x hx), upd_ne x1, upd_ne (xW x hx)]
          · refine List.nodup_cons.mpr ⟨fun z => ?_, List.nodup_cons.mpr ⟨fun z => ?_, ndfr⟩⟩
            · rcases List.mem_cons.mp z with z | z
              · exact neSW z
              · exact ndS (List.mem_cons_of_mem _ (List.mem_cons_of_mem _ z))
            · exact ndW (List.mem_cons_of_mem _ z)
          · intro b hb
            refine N.nw b ?_
            rcases List.mem_cons.mp hb with z | z
            · rw [z]; exact List.mem_cons_self ..
            · rcases List.mem_cons.mp z with z | z
              · rw [z]; exact List.mem_cons_of_mem _ (List.mem_cons_self ..)
              · exact List.mem_cons_of_mem _ (List.mem_cons_of_mem _ (List.mem_cons_of_mem _ z))
          · have := N.eq
            rw [rest_nil] at this
            rw [List.append_assoc]
            exact this
          · have := N.le
            rw [List.length_append, List.length_singleton]
            simp at this ⊢
            omega
      | cons d w' =>
        rw [ndsD] at f2
        obtain ⟨v, vs, ef, d1, d2⟩ := all_cons' f2
        rw [show (decide (V.int ((f.2.reverse.length : Nat) : Int) = V.int 0)) = false from decide_eq_false (fun z => by
          have z' := V.int.inj z
          rw [ef, List.length_reverse, List.length_cons] at z'
          omega)]
        refine iteF ?_
        have f1' : H' f.1 = some (.lst (vs.reverse ++ [v])) := by
          rw [f1, ef, List.reverse_cons]
        refine ⟨_, rfl, _, rfl, W, _, _, _, rfl, rfl, SqL.of N.hW, hlast, .inl ⟨rfl, _, SqL.of f1'⟩, f.1, _, _, rfl, rfl, f1', pop_last _ _, ?_⟩
        rw [List.dropLast_concat]
        have t1 : Tp H' (upd H' f.1 (.lst vs.reverse)) := Tp.lst f1'
        have m1 : Sm P H (upd H' f.1 (.lst vs.reverse)) := N.sm.mut wf.1 wf.2
        have hS1 : upd H' f.1 (.lst vs.reverse) S = some (.lst outs) := by
          rw [upd_ne nfS.symm]
          exact N.hS
        have hW1 : upd H' f.1 (.lst vs.reverse) W = some (.lst (refs (f :: fr'))) := by
          rw [upd_ne nfW.symm]
          exact N.hW
        have hf1 : upd H' f.1 (.lst vs.reverse) f.1 = some (.lst vs.reverse) := upd_same
        have hfr1 : Wrs K H (upd H' f.1 (.lst vs.reverse)) fr' ws'' := Wrs.mono (fun x hx => upd_ne (xf x hx)) hfr
        have os1 := sgs_tp t1 N.os
        generalize upd H' f.1 (.lst vs.reverse) = G1 at m1 hS1 hW1 hf1 hfr1 os1
        have restE : rest ((d :: w') :: ws'') = sgN d ++ rest (w' :: ws'') := by cases ws'' <;> simp [rest, sgs]
        have okd : (sgN d).all Sg.ok = true := by
          have e := N.eq
          rw [restE] at e
          rw [← e, List.all_append, List.all_append, Bool.and_eq_true, Bool.and_eq_true] at hok
          exact hok.2.1
        have toR : refs (f :: fr') = refs ((f.1, vs) :: fr') := by rw [refs_cons, refs_cons]
        refine ⟨_, rfl, m1.2, _, ⟨v, d, rfl, nd_tp (Tp.sm t m1) _ _ d1, okd, rfl⟩, fun b G2 s2 e => ⟨isTx d, e, ?_⟩⟩
        have m2 := m1.trans s2
        have hS2 := s2.atL m1.2 hS1
        have hW2 := s2.atL m1.2 hW1
        have hf2 := s2.atL m1.2 hf1
        have hfr2 : Wrs K H G2 fr' ws'' := by
          refine paired_mono (fun x y q => ⟨s2.atL m1.2 q.1, q.2⟩) hfr1
        have os2 := sgs_tp (Tp.sm m1.2 s2) os1
        clear hS1 hW1 hf1 hfr1 os1 m1 t1
        have at2 : ∀ x ∈ fr', ∃ u, G2 x.1 = some (.lst u) := fun x hx => by
          obtain ⟨j, hj⟩ := List.mem_iff_getElem?.mp hx
          obtain ⟨_, _, q1, _⟩ := paired_get hfr2 hj
          exact ⟨_, q1⟩
        have nodup' : (S :: W :: adr ((f.1, vs) :: fr')).Nodup := N.nd
        have news' : ∀ b ∈ S :: W :: adr ((f.1, vs) :: fr'), H b = none ∧ b ≠ P := N.nw
        cases d with
        | tx z =>
          obtain ⟨q, rfl, hq0⟩ := nd_tx d1
          refine iteT ⟨_, rfl, .inl ⟨rfl, _, SqL.of hS2⟩, _, rfl, q, _, _, _, rfl, rfl, m2.tup t hq0, atI_nat (j := 1) rfl, (by show 2 ≤ sizeLine; decide), fun T1 hT1 => ?_⟩
          have nS1 : S ≠ T1 := ne_of_none hS2 hT1
          have nW1 : W ≠ T1 := ne_of_none hW2 hT1
          have nf1 : f.1 ≠ T1 := ne_of_none hf2 hT1
          have hS3 : upd G2 T1 (.tup [.str "text", .str z]) S = some (.lst outs) := by
            rw [upd_ne nS1]
            exact hS2
          refine ⟨S, _, _, rfl, rfl, hS3, small (by omega), ?_⟩
          have t4 := (Tp.new (o := .tup [.str "text", .str z]) hT1).trans (Tp.lst (o := .lst (outs ++ [V.ref T1])) hS3)
          have m3 := m2.trans (Sm.new (o := .tup [.str "text", .str z]) m2.2 hT1)
          have m4 : Sm P H (upd (upd G2 T1 (.tup [.str "text", .str z])) S (.lst (outs ++ [V.ref T1]))) := m3.mut wS.1 wS.2
          refine ⟨_, rfl, _, _, rfl, rfl, ?_⟩
          refine ⟨(f.1, vs) :: fr', w' :: ws'', out ++ [.tx z], outs ++ [V.ref T1], _, _, rfl, ⟨m4, upd_same, ?_, ?_, .cons ⟨?_, d2⟩ (Wrs.mono (fun x hx => ?_) hfr2), nodup', news', ?_, ?_⟩, by simp, by rw [← hcnt]; exact cnt_tx⟩
          · refine paired_append (sgs_tp t4 os2) (.cons ⟨T1, rfl, .inl (.inl ?_)⟩ .nil)
            rw [upd_ne nS1.symm, upd_same]
            rfl
          · rw [upd_ne neSW.symm, upd_ne nW1, hW2, toR]
          · rw [upd_ne nfS, upd_ne nf1]
            exact hf2
          · obtain ⟨u, hu⟩ := at2 x hx
            rw [upd_ne (xS x hx), upd_ne (ne_of_none hu hT1)]
          · have := N.eq
            rw [rest_tx] at this
            rw [List.append_assoc]
            exact this
          · have := N.le
            rw [List.length_append, List.length_singleton]
            simp at this ⊢
            omega
        | el l ds' =>
          obtain ⟨q, b2, ys, rfl, hq0, hb0, hys⟩ := nd_el d1
          have okl : Sg.ok (.op l) = true := by
            have e : (sgN (.el l ds')).all Sg.ok = true := okd
            rw [sgN, List.all_cons, Bool.and_eq_true] at e
            exact e.1
          refine iteF ⟨_, rfl, m2.2, _, ⟨_, l, ds', rfl, nd_tp (Tp.sm t m2) _ _ d1, okl, rfl⟩, fun b G3 s3 e => ⟨true, e, iteT ?_⟩⟩
          have m3 := m2.trans s3
          have hS3 := s3.atL m2.2 hS2
          have hW3 := s3.atL m2.2 hW2
          have hf3 := s3.atL m2.2 hf2
          have hfr3 : Wrs K H G3 fr' ws'' := paired_mono (fun x y q => ⟨s3.atL m2.2 q.1, q.2⟩) hfr2
          have os3 := sgs_tp (Tp.sm m2.2 s3) os2
          have at3 : ∀ x ∈ fr', ∃ u, G3 x.1 = some (.lst u) := fun x hx => by
            obtain ⟨j, hj⟩ := List.mem_iff_getElem?.mp hx
            obtain ⟨_, _, q1, _⟩ := paired_get hfr3 hj
            exact ⟨_, q1⟩
          refine ⟨_, rfl, .inl ⟨rfl, _, SqL.of hS3⟩, _, rfl, q, _, _, _, rfl, rfl, m3.tup t hq0, atI_nat (j := 1) rfl, (by show 2 ≤ sizeLine; decide), fun T1 hT1 => ?_⟩
          have nS1 : S ≠ T1 := ne_of_none hS3 hT1
          have nW1 : W ≠ T1 := ne_of_none hW3 hT1
          have nf1 : f.1 ≠ T1 := ne_of_none hf3 hT1
          have hS4 : upd G3 T1 (.tup [.str "open", .str l]) S = some (.lst outs) := by
            rw [upd_ne nS1]
            exact hS3
          refine ⟨S, _, _, rfl, rfl, hS4, small (by omega), ?_⟩
          have t4 := (Tp.new (o := .tup [.str "open", .str l]) hT1).trans (Tp.lst (o := .lst (outs ++ [V.ref T1])) hS4)
          have m4 := m3.trans (Sm.new (o := .tup [.str "open", .str l]) m3.2 hT1)
          have m5 : Sm P H (upd (upd G3 T1 (.tup [.str "open", .str l])) S (.lst (outs ++ [V.ref T1]))) := m4.mut wS.1 wS.2
          have hS5 : upd (upd G3 T1 (.tup [.str "open", .str l])) S (.lst (outs ++ [V.ref T1])) S = some (.lst (outs ++ [V.ref T1])) := upd_same
          have hW5 : upd (upd G3 T1 (.tup [.str "open", .str l])) S (.lst (outs ++ [V.ref T1])) W = some (.lst (refs (f :: fr'))) := by
            rw [upd_ne neSW.symm, upd_ne nW1]
            exact hW3
          have hf5 : upd (upd G3 T1 (.tup [.str "open", .str l])) S (.lst (outs ++ [V.ref T1])) f.1 = some (.lst vs.reverse) := by
            rw [upd_ne nfS, upd_ne nf1]
            exact hf3
          have hfr5 : Wrs K H (upd (upd G3 T1 (.tup [.str "open", .str l])) S (.lst (outs ++ [V.ref T1]))) fr' ws'' := Wrs.mono (fun x hx => by
            obtain ⟨u, hu⟩ := at3 x hx
            rw [upd_ne (xS x hx), upd_ne (ne_of_none hu hT1)]) hfr3
          have os5 : Paired (SgV K (upd (upd G3 T1 (.tup [.str "open", .str l])) S (.lst (outs ++ [V.ref T1])))) (outs ++ [V.ref T1]) (out ++ [.op l]) := by
            refine paired_append (sgs_tp t4 os3) (.cons ⟨T1, rfl, .inl (.inl ?_)⟩ .nil)
            rw [upd_ne nS1.symm, upd_same]
            rfl
          generalize upd (upd G3 T1 (.tup [.str "open", .str l])) S (.lst (outs ++ [V.ref T1])) = G5 at m5 hS5 hW5 hf5 hfr5 os5
          have at5 : ∀ x ∈ fr', ∃ u, G5 x.1 = some (.lst u) := fun x hx => by
            obtain ⟨j, hj⟩ := List.mem_iff_getElem?.mp hx
            obtain ⟨_, _, q1, _⟩ := paired_get hfr5 hj
            exact ⟨_, q1⟩
          refine ⟨_, rfl, .inl ⟨rfl, _, SqL.of hW5⟩, _, rfl, q, _, _, _, rfl, rfl, m5.tup t hq0, atI_nat (j := 2) rfl, b2, ys, rfl, m5.tup t hb0, fun A2 hA2 => ?_⟩
          have nS2 : S ≠ A2 := ne_of_none hS5 hA2
          have nW2 : W ≠ A2 := ne_of_none hW5 hA2
          have nf2 : f.1 ≠ A2 := ne_of_none hf5 hA2
          have hW6 : upd G5 A2 (.lst ys.reverse) W = some (.lst (refs (f :: fr'))) := by
            rw [upd_ne nW2]
            exact hW5
          refine ⟨W, _, _, rfl, rfl, hW6, ?_, ?_⟩
          · rw [refs_len]
            have := N.le
            exact small (by omega)
          have t6 := (Tp.new (o := .lst ys.reverse) hA2).trans (Tp.lst (o := .lst (refs (f :: fr') ++ [V.ref A2])) hW6)
          have m6 := m5.trans (Sm.new (o := .lst ys.reverse) m5.2 hA2)
          have m7 : Sm P H (upd (upd G5 A2 (.lst ys.reverse)) W (.lst (refs (f :: fr') ++ [V.ref A2]))) := m6.mut wW.1 wW.2
          refine ⟨_, rfl, _, _, rfl, rfl, ?_⟩
          have x2 : ∀ x ∈ fr', x.1 ≠ A2 := fun x hx => by
            obtain ⟨u, hu⟩ := at5 x hx
            exact ne_of_none hu hA2
          refine ⟨(A2, ys) :: (f.1, vs) :: fr', ds' :: w' :: ws'', out ++ [.op l], outs ++ [V.ref T1], _, _, rfl, ⟨m7, ?_, sgs_tp t6 os5, ?_, .cons ⟨?_, hys⟩ (.cons ⟨?_, d2⟩ (Wrs.mono (fun x hx => ?_) hfr5)), ?_, ?_, ?_, ?_⟩, by simp, by rw [← hcnt]; exact cnt_el⟩
          · rw [upd_ne neSW, upd_ne nS2]
            exact hS5
          · rw [upd_same, refs_cons (A2, ys), ← toR]
          · rw [upd_ne nW2.symm, upd_same]
          · rw [upd_ne nfW, upd_ne nf2]
            exact hf5
          · rw [upd_ne (xW x hx), upd_ne (x2 x hx)]
          · have hA : A2 ∉ adr ((f.1, vs) :: fr') := fun z => by
              rcases List.mem_cons.mp z with z | z
              · exact nf2 z.symm
              · obtain ⟨x, hx, e⟩ := List.mem_map.mp z
                exact x2 x hx e
            refine List.nodup_cons.mpr ⟨fun z => ?_, List.nodup_cons.mpr ⟨fun z => ?_, List.nodup_cons.mpr ⟨hA, nda⟩⟩⟩
            · rcases List.mem_cons.mp z with z | z
              · exact neSW z
              · rcases List.mem_cons.mp z with z | z
                · exact nS2 z
                · exact ndS (List.mem_cons_of_mem _ z)
            · rcases List.mem_cons.mp z with z | z
              · exact nW2 z
              · exact ndW z
          · intro b hb
            rcases List.mem_cons.mp hb with z | z
            · rw [z]; exact wS
            · rcases List.mem_cons.mp z with z | z
              · rw [z]; exact wW
              · rcases List.mem_cons.mp z with z | z
                · rw [z]; exact ⟨m5.free t hA2, nP m5.2 hA2⟩
                · exact news' b (List.mem_cons_of_mem _ (List.mem_cons_of_mem _ z))
          · have := N.eq
            rw [rest_el] at this
            rw [List.append_assoc]
            exact this
          · have := N.le
            rw [List.length_append, List.length_singleton]
            simp at this ⊢
            omega
end
end K6

set_option maxRecDepth 100000
set_option maxHeartbeats 4000000
namespace K6
open PySem PySem.Spec PyProof.Rows L2 So
/-- where draws come from -/
def Box (H : Hp) (b : Addr) : Prop := ∃ g s : Int, H b = some (.lst [.int g, .int s]) ∧ 0 ≤ g ∧ 0 ≤ s ∧ s ≤ 2147483563
section
variable {Pg : Program} {w : World} {K : PySem.W.Frag} {mg : Str → Option Value} {base : Heap} {P : Addr}
/-! ### _law_box -/
abbrev sBox : Stmt := top 34
theorem scBox : FnScope ["script", "k", "cell", "great"] ["script", "k"] (defScope sBox) := ⟨rfl, rfl, rfl, by decide +kernel, rfl, by decide +kernel, by decide +kernel⟩
def spBox (K : PySem.W.Frag) (P : Addr) : Sp := fun vs H Q _ => GxR.TabG H P ∧ ∃ (a : Addr) (ns : List Int) (k : Nat), vs = [.ref a, .int (k : Int)] ∧ SqL K H a (ns.map V.int) ∧ ns.length ≤ 63 ∧ k ≤ 1000 ∧
  ∀ b H', Sm P H H' → H b = none → b ≠ P → Box H' b → Q (.ref b) H'
theorem item_int {ns : List Int} {j : Nat} (h : j < ns.length) : ∃ n, (ns.map V.int)[j]? = some (V.int n) := ⟨ns[j], by rw [List.getElem?_map, List.getElem?_eq_getElem h]; rfl⟩
theorem ok_box {f : Addr} {fd : FuncData} (F : Fun K "_law_box" "_law_box" sBox f fd) (T : Tx K mg) : FnOk Pg w K mg base CX0 1 f fd ["script", "k"] (spBox K P) := by
  refine F.ok scBox (fun vs H Q E h => ?_) (fun cdv A outer s H vs Q E hr h => ?_)
  · obtain ⟨_, _, _, _, rfl, _⟩ := h
    rfl
  · obtain ⟨t, a, ns, k, rfl, hS, hlen, hk, kont⟩ := h
    refine ⟨_, pss_cons (ps_set (i := 2) scBox.nd rfl (Or.inl rfl) (pe_op op_add (pe_op op_mul pe_int (pv 1)) pe_int))
      (pss_cons (ps_if (pt_cmpR op_lt (pv 1) (pe_callB call_len_seq (by rfl) T.len (by decide +kernel) (pa_cons (pv 0) pa_nil)) (nomark _))
        (pss_one (ps_set (i := 2) scBox.nd rfl (Or.inl rfl) (pe_callB call_abs (by rfl) T.abs (by decide +kernel) (pa_cons (pe_callTy call_int1 (by rfl) T.int (by decide +kernel) (pa_cons (pe_ix ix_list (pv 0) (pv 1) (fun _ _ => rfl)) pa_nil)) pa_nil))))
        (pss_one (ps_if (pt_cmpR op_gt (pe_callB call_len_seq (by rfl) T.len (by decide +kernel) (pa_cons (pv 0) pa_nil)) pe_int (nomark _))
          (pss_one (ps_set (i := 2) scBox.nd rfl (Or.inl rfl) (pe_op op_add (pv 2) (pe_op op_mul (pe_op op_mod (pe_callTy call_int1 (by rfl) T.int (by decide +kernel) (pa_cons (pe_callB call_abs (by rfl) T.abs (by decide +kernel) (pa_cons (pe_callTy call_int1 (by rfl) T.int (by decide +kernel)
              (pa_cons (pe_ix ix_list (pv 0) (pe_op op_mod (pe_callTy call_int1 (by rfl) T.int (by decide +kernel) (pa_cons (pv 1) pa_nil)) (pe_callB call_len_seq (by rfl) T.len (by decide +kernel) (pa_cons (pv 0) pa_nil))) (fun _ _ => rfl)) pa_nil)) pa_nil)) pa_nil)) pe_int) pe_int))))
          pss_nil)))
      (pss_cons (ps_set (i := 3) scBox.nd rfl (Or.inl rfl) (pe_ifExp (pt_cmpR op_ge (pv 2) (pe_op op_pow pe_int pe_int) (nomark _)) (pv 2) pe_int))
      (pss_one (ps_ret (pe_lst (pa_cons (pv 3) (pa_cons (pe_op op_add (pe_op op_mod (pe_callTy call_int1 (by rfl) T.int (by decide +kernel) (pa_cons (pe_op op_add (pe_op op_mul (pe_op op_mod (pe_callTy call_int1 (by rfl) T.int (by decide +kernel) (pa_cons (pv 2) pa_nil)) pe_int) pe_int) (pe_op op_mul pe_int (pv 1))) pa_nil)) pe_int) pe_int) pa_nil))))))), ?_⟩
    have nP : ∀ {b : Addr}, H b = none → b ≠ P := fun e z => by
      obtain ⟨ps, q, _⟩ := t
      rw [z, q] at e
      cases e
    refine ⟨_, rfl, _, _, rfl, rfl, .inl ⟨(by show -(2 ^ 64) < (15233 : Int); decide), (by show (15233 : Int) < 2 ^ 64; decide)⟩, _, _, rfl, rfl, ?_⟩
    refine ⟨_, rfl, _, rfl, a, _, rfl, .inl hS, _, _, rfl, rfl, _, rfl, ?_⟩
    refine ite2 (fun h1 => ?_) (fun h1 => ?_)
    · have h1' : (k : Int) < ((ns.map V.int).length : Nat) := of_decide_eq_true h1
      rw [List.length_map] at h1'
      obtain ⟨n, hn⟩ := item_int (ns := ns) (j := k) (by omega)
      refine ⟨_, rfl, _, rfl, a, _, _, _, rfl, rfl, hS, atI_nat hn, .inl ⟨_, rfl, _, rfl, ?_⟩⟩
      have c0 : 0 ≤ (if n < 0 then -n else n) := by split <;> omega
      generalize (if n < 0 then -n else n) = c at c0
      refine ⟨_, rfl, _, _, rfl, rfl, ⟨by decide, by decide, by decide⟩, _, _, rfl, rfl, _, rfl, ?_⟩
      refine ite2 (fun _ => ?_) (fun _ => ?_)
      · refine ⟨_, rfl, ?_⟩
        refine ⟨_, rfl, _, rfl, .inl ⟨_, rfl, _, _, rfl, rfl, (by show (0 : Int) < 2147483563; decide), _, _, rfl, rfl, .inr ⟨(by show -(2 ^ 64) < (53770007 : Int); decide), (by show (53770007 : Int) < 2 ^ 64; decide)⟩, _, rfl, _, _, rfl, rfl, .inl ⟨(by show -(2 ^ 64) < (8501 : Int); decide), (by show (8501 : Int) < 2 ^ 64; decide)⟩, _, _, rfl, rfl, .inl ⟨_, rfl, _, _, rfl, rfl, (by show (0 : Int) < 2147483563; decide), _, _, rfl, rfl, (by show 2 ≤ sizeLine; decide), fun q hq => ?_⟩⟩⟩
        exact kont q _ (Sm.new t hq) hq (nP hq) ⟨_, _, upd_same, c0, by omega, by omega⟩
      · refine ⟨_, rfl, _, rfl, .inl ⟨_, rfl, _, _, rfl, rfl, (by show (0 : Int) < 2147483563; decide), _, _, rfl, rfl, .inr ⟨(by show -(2 ^ 64) < (53770007 : Int); decide), (by show (53770007 : Int) < 2 ^ 64; decide)⟩, _, rfl, _, _, rfl, rfl, .inl ⟨(by show -(2 ^ 64) < (8501 : Int); decide), (by show (8501 : Int) < 2 ^ 64; decide)⟩, _, _, rfl, rfl, .inl ⟨_, rfl, _, _, rfl, rfl, (by show (0 : Int) < 2147483563; decide), _, _, rfl, rfl, (by show 2 ≤ sizeLine; decide), fun q hq => ?_⟩⟩⟩
        exact kont q _ (Sm.new t hq) hq (nP hq) ⟨_, _, upd_same, Int.le_refl 0, by omega, by omega⟩
    · refine ⟨_, rfl, a, _, rfl, .inl hS, _, _, rfl, rfl, _, rfl, ?_⟩
      have c1 : (0 : Int) ≤ 15233 * (k : Int) + 8501 := by omega
      refine ite2 (fun h2 => ?_) (fun h2 => ?_)
      · have h2' : ((ns.map V.int).length : Nat) > (0 : Int) := of_decide_eq_true h2
        rw [List.length_map] at h2'
        obtain ⟨n, hn⟩ := item_int (ns := ns) (j := k % ns.length) (Nat.mod_lt _ (by omega))
        have ej : (k : Int) % (((ns.map V.int).length : Nat) : Int) = ((k % ns.length : Nat) : Int) := by
          rw [List.length_map]
          exact (Int.natCast_emod k ns.length).symm
        have at2 : atI (ns.map V.int) ((k : Int) % (((ns.map V.int).length : Nat) : Int)) = some (V.int n) := by
          rw [ej]
          exact atI_nat hn
        refine ⟨_, rfl, _, rfl, _, rfl, .inl ⟨_, rfl, _, rfl, a, _, rfl, .inl hS, _, _, rfl, rfl, (by rw [List.length_map]; exact h2'), a, _, _, _, rfl, rfl, hS, at2, .inl ⟨_, rfl, _, rfl, .inl ⟨_, rfl, _, _, rfl, rfl, (by show (0 : Int) < 2147483563; decide), _, _, rfl, rfl, .inr ⟨(by show -(2 ^ 64) < (92009 : Int); decide), (by show (92009 : Int) < 2 ^ 64; decide)⟩, _, _, rfl, rfl, ?_⟩⟩⟩⟩
        have m0 : 0 ≤ (if n < 0 then -n else n) % 2147483563 := Int.emod_nonneg _ (by decide)
        have c0 : 0 ≤ 15233 * (k : Int) + 8501 + (if n < 0 then -n else n) % 2147483563 * 92009 := by omega
        refine ⟨_, rfl, _, _, rfl, rfl, ⟨by decide, by decide, by decide⟩, _, _, rfl, rfl, _, rfl, ?_⟩
        refine ite2 (fun _ => ?_) (fun _ => ?_)
        · refine ⟨_, rfl, ?_⟩
          refine ⟨_, rfl, _, rfl, .inl ⟨_, rfl, _, _, rfl, rfl, (by show (0 : Int) < 2147483563; decide), _, _, rfl, rfl, .inr ⟨(by show -(2 ^ 64) < (53770007 : Int); decide), (by show (53770007 : Int) < 2 ^ 64; decide)⟩, _, rfl, _, _, rfl, rfl, .inl ⟨(by show -(2 ^ 64) < (8501 : Int); decide), (by show (8501 : Int) < 2 ^ 64; decide)⟩, _, _, rfl, rfl, .inl ⟨_, rfl, _, _, rfl, rfl, (by show (0 : Int) < 2147483563; decide), _, _, rfl, rfl, (by show 2 ≤ sizeLine; decide), fun q hq => ?_⟩⟩⟩
          exact kont q _ (Sm.new t hq) hq (nP hq) ⟨_, _, upd_same, c0, by omega, by omega⟩
        · refine ⟨_, rfl, _, rfl, .inl ⟨_, rfl, _, _, rfl, rfl, (by show (0 : Int) < 2147483563; decide), _, _, rfl, rfl, .inr ⟨(by show -(2 ^ 64) < (53770007 : Int); decide), (by show (53770007 : Int) < 2 ^ 64; decide)⟩, _, rfl, _, _, rfl, rfl, .inl ⟨(by show -(2 ^ 64) < (8501 : Int); decide), (by show (8501 : Int) < 2 ^ 64; decide)⟩, _, _, rfl, rfl, .inl ⟨_, rfl, _, _, rfl, rfl, (by show (0 : Int) < 2147483563; decide), _, _, rfl, rfl, (by show 2 ≤ sizeLine; decide), fun q hq => ?_⟩⟩⟩
          exact kont q _ (Sm.new t hq) hq (nP hq) ⟨_, _, upd_same, Int.le_refl 0, by omega, by omega⟩
      · refine ⟨_, rfl, _, _, rfl, rfl, ⟨by decide, by decide, by decide⟩, _, _, rfl, rfl, _, rfl, ?_⟩
        refine ite2 (fun _ => ?_) (fun _ => ?_)
        · refine ⟨_, rfl, ?_⟩
          refine ⟨_, rfl, _, rfl, .inl ⟨_, rfl, _, _, rfl, rfl, (by show (0 : Int) < 2147483563; decide), _, _, rfl, rfl, .inr ⟨(by show -(2 ^ 64) < (53770007 : Int); decide), (by show (53770007 : Int) < 2 ^ 64; decide)⟩, _, rfl, _, _, rfl, rfl, .inl ⟨(by show -(2 ^ 64) < (8501 : Int); decide), (by show (8501 : Int) < 2 ^ 64; decide)⟩, _, _, rfl, rfl, .inl ⟨_, rfl, _, _, rfl, rfl, (by show (0 : Int) < 2147483563; decide), _, _, rfl, rfl, (by show 2 ≤ sizeLine; decide), fun q hq => ?_⟩⟩⟩
          exact kont q _ (Sm.new t hq) hq (nP hq) ⟨_, _, upd_same, c1, by omega, by omega⟩
        · refine ⟨_, rfl, _, rfl, .inl ⟨_, rfl, _, _, rfl, rfl, (by show (0 : Int) < 2147483563; decide), _, _, rfl, rfl, .inr ⟨(by show -(2 ^ 64) < (53770007 : Int); decide), (by show (53770007 : Int) < 2 ^ 64; decide)⟩, _, rfl, _, _, rfl, rfl, .inl ⟨(by show -(2 ^ 64) < (8501 : Int); decide), (by show (8501 : Int) < 2 ^ 64; decide)⟩, _, _, rfl, rfl, .inl ⟨_, rfl, _, _, rfl, rfl, (by show (0 : Int) < 2147483563; decide), _, _, rfl, rfl, (by show 2 ≤ sizeLine; decide), fun q hq => ?_⟩⟩⟩
          exact kont q _ (Sm.new t hq) hq (nP hq) ⟨_, _, upd_same, Int.le_refl 0, by omega, by omega⟩
end
end K6

set_option maxRecDepth 100000
set_option maxHeartbeats 4000000
namespace K6
open PySem PySem.Spec PyProof.Rows L2 So
/-- behind a draw -/
def Drw (H : Hp) (b : Addr) (k : Hp → Prop) : Prop := ∀ g s : Int, 0 ≤ g → 0 ≤ s → s ≤ 2147483563 → k (upd H b (.lst [.int g, .int s]))
theorem box_of {H : Hp} {b : Addr} {g s : Int} (h1 : 0 ≤ g) (h2 : 0 ≤ s) (h3 : s ≤ 2147483563) : Box (upd H b (.lst [.int g, .int s])) b := ⟨g, s, upd_same, h1, h2, h3⟩
section
variable {Pg : Program} {w : World} {K : PySem.W.Frag} {mg : Str → Option Value} {base : Heap} {P : Addr}
/-! ### _law_take -/
abbrev sTak : Stmt := top 35
theorem scTak : FnScope ["box", "many", "digit", "raw"] ["box", "many"] (defScope sTak) := ⟨rfl, rfl, rfl, by decide +kernel, rfl, by decide +kernel, by decide +kernel⟩
def spTak : Sp := fun vs H Q _ => ∃ (b : Addr) (n : Int), vs = [.ref b, .int n] ∧ Box H b ∧ 0 < n ∧ n < 1000000000 ∧ ∀ r : Int, 0 ≤ r → r < n → Drw H b (fun H' => Q (.int r) H')
theorem ok_tak {f : Addr} {fd : FuncData} (F : Fun K "_law_take" "_law_take" sTak f fd) (T : Tx K mg) : FnOk Pg w K mg base CX0 1 f fd ["box", "many"] spTak := by
  refine F.ok scTak (fun vs H Q E h => ?_) (fun cdv A outer s H vs Q E hr h => ?_)
  · obtain ⟨_, _, rfl, _⟩ := h
    rfl
  · obtain ⟨b, n, rfl, ⟨g, z, hb, hg, hz, hz2⟩, hn, hn2, kont⟩ := h
    refine ⟨_, pss_cons (ps_if (pt_cmpR op_gt (pe_ix ix_list (pv 0) pe_int (fun _ _ => rfl)) pe_int (nomark _))
        (pss_cons (ps_set (i := 2) scTak.nd rfl (Or.inl rfl) (pe_op op_mod (pe_callTy call_int1 (by rfl) T.int (by decide +kernel) (pa_cons (pe_ix ix_list (pv 0) pe_int (fun _ _ => rfl)) pa_nil)) (pv 1)))
        (pss_cons (ps_asg (pe_op op_fdiv (pe_ix ix_list (pv 0) pe_int (fun _ _ => rfl)) (pv 1)) (pg_sub (pv 0) pe_int set_list))
        (pss_one (ps_ret (pv 2))))) pss_nil)
      (pss_cons (ps_set (i := 3) scTak.nd rfl (Or.inl rfl) (pe_op op_mod (pe_callTy call_int1 (by rfl) T.int (by decide +kernel) (pa_cons (pe_op op_add (pe_op op_mul (pe_ix ix_list (pv 0) pe_int (fun _ _ => rfl)) pe_int) pe_int) pa_nil)) pe_int))
      (pss_cons (ps_asg (pe_op op_add (pe_op op_mod (pe_callTy call_int1 (by rfl) T.int (by decide +kernel) (pa_cons (pe_op op_add (pe_op op_mul (pv 3) pe_int) pe_int) pa_nil)) pe_int) pe_int) (pg_sub (pv 0) pe_int set_list))
      (pss_one (ps_ret (pe_op op_mod (pe_callTy call_int1 (by rfl) T.int (by decide +kernel) (pa_cons (pe_op op_fdiv (pe_op op_add (pe_op op_mul (pv 3) pe_int) (pe_ix ix_list (pv 0) pe_int (fun _ _ => rfl))) pe_int) pa_nil)) (pv 1)))))), ?_⟩
    refine ⟨_, rfl, b, _, _, _, rfl, rfl, SqL.of hb, atI_nat (j := 0) rfl, _, _, rfl, rfl, _, rfl, ?_⟩
    refine ite2 (fun _ => ?_) (fun _ => ?_)
    · refine ⟨_, rfl, b, _, _, _, rfl, rfl, SqL.of hb, atI_nat (j := 0) rfl, .inl ⟨_, rfl, _, rfl, _, _, rfl, rfl, hn, ?_⟩⟩
      refine ⟨_, rfl, b, _, _, _, rfl, rfl, SqL.of hb, atI_nat (j := 0) rfl, _, rfl, _, _, rfl, rfl, ⟨hn, by omega⟩, ?_⟩
      refine ⟨_, rfl, b, _, _, 0, rfl, rfl, hb, rfl, ?_⟩
      refine ⟨_, rfl, ?_⟩
      exact kont _ (Int.emod_nonneg _ (by omega)) (Int.emod_lt_of_pos _ hn) (g / n) z (Int.ediv_nonneg hg (by omega)) hz hz2
    · refine ⟨_, rfl, b, _, _, _, rfl, rfl, SqL.of hb, atI_nat (j := 1) rfl, _, _, rfl, rfl, .inr ⟨(by show -(2 ^ 64) < (39373 : Int); decide), (by show (39373 : Int) < 2 ^ 64; decide)⟩, _, _, rfl, rfl, .inl ⟨_, rfl, _, _, rfl, rfl, (by show (0 : Int) < 2147483647; decide), ?_⟩⟩
      refine ⟨_, rfl, _, _, rfl, rfl, .inr ⟨(by show -(2 ^ 64) < (40692 : Int); decide), (by show (40692 : Int) < 2 ^ 64; decide)⟩, _, _, rfl, rfl, .inl ⟨_, rfl, _, _, rfl, rfl, (by show (0 : Int) < 2147483563; decide), _, _, rfl, rfl, ?_⟩⟩
      refine ⟨_, rfl, b, _, _, 1, rfl, rfl, hb, rfl, ?_⟩
      refine ⟨_, rfl, _, _, rfl, rfl, .inr ⟨(by show -(2 ^ 64) < (2147483629 : Int); decide), (by show (2147483629 : Int) < 2 ^ 64; decide)⟩, _, rfl, b, _, _, _, rfl, rfl, SqL.of upd_same, atI_nat (j := 1) rfl, _, _, rfl, rfl, _, _, rfl, rfl, ⟨by decide, by decide⟩, .inl ⟨_, rfl, _, rfl, _, _, rfl, rfl, hn, ?_⟩⟩
      exact kont _ (Int.emod_nonneg _ (by omega)) (Int.emod_lt_of_pos _ hn) g _ hg (by omega) (by omega)
/-! ### _law_pick -/
abbrev sPck : Stmt := top 36
theorem scPck : FnScope ["box", "some"] ["box", "some"] (defScope sPck) := ⟨rfl, rfl, rfl, by decide +kernel, rfl, by decide +kernel, by decide +kernel⟩
def spPck : Sp := fun vs H Q _ => ∃ (b l : Addr) (xs : List V), vs = [.ref b, .ref l] ∧ Box H b ∧ H l = some (.lst xs) ∧ l ≠ b ∧ 0 < xs.length ∧ xs.length < 1000 ∧ ∀ (j : Nat) (v : V), xs[j]? = some v → Drw H b (fun H' => Q v H')
theorem ok_pck {f fT : Addr} {fd fdT : FuncData} (F : Fun K "_law_pick" "_law_pick" sPck f fd) (T : Tx K mg) (D : Df K mg "_law_take" sTak ["box", "many"] fT fdT) : FnOk Pg w K mg base CX0 2 f fd ["box", "some"] spPck := by
  have GD : FnOk Pg w K mg base CX0 1 fT fdT ["box", "many"] spTak := ok_tak D.F T
  refine F.ok scPck (fun vs H Q E h => ?_) (fun cdv A outer s H vs Q E hr h => ?_)
  · obtain ⟨_, _, _, rfl, _⟩ := h
    rfl
  · obtain ⟨b, l, xs, rfl, hb, hl, ne, h0, h1, kont⟩ := h
    refine ⟨_, pss_one (ps_ret (pe_ix ix_list (pv 1) (pe_call GD hr (by rfl) D.g D.F.kp D.b .nil pass0 (pa_cons (pv 0) (pa_cons (pe_callB call_len_seq (by rfl) T.len (by decide +kernel) (pa_cons (pv 1) pa_nil)) pa_nil))) (fun _ _ => rfl))), ?_⟩
    refine ⟨_, rfl, _, rfl, _, rfl, l, _, rfl, .inl (SqL.of hl), b, _, rfl, hb, by omega, by omega, fun r r0 r1 g z a1 a2 a3 => ?_⟩
    obtain ⟨j, rfl⟩ : ∃ j : Nat, r = (j : Int) := ⟨r.toNat, by omega⟩
    have hj : xs[j]? = some xs[j] := List.getElem?_eq_getElem (by omega)
    have hl' : upd H b (.lst [.int g, .int z]) l = some (.lst xs) := by
      rw [upd_ne ne]
      exact hl
    exact ⟨l, _, _, _, rfl, rfl, SqL.of hl', atI_nat hj, kont j _ hj g z a1 a2 a3⟩
end
end K6

set_option maxRecDepth 100000
set_option maxHeartbeats 4000000
namespace K6
open PySem PySem.Spec PyProof.Rows L2 So
/-! ### all rows of some signs -/
def rows (ss : List Sg) : Nat → List (List Sg)
  | 0 => [[]]
  | n + 1 => (rows ss n).flatMap fun g => ss.map fun s => g ++ [s]
theorem rows_len (ss : List Sg) : ∀ n, (rows ss n).length = ss.length ^ n
  | 0 => rfl
  | n + 1 => by
    have key : ∀ l : List (List Sg), (l.flatMap fun g => ss.map fun s => g ++ [s]).length = l.length * ss.length := by
      intro l
      induction l with
      | nil => simp
      | cons a l ih =>
        rw [List.flatMap_cons, List.length_append, ih, List.length_map, List.length_cons, Nat.succ_mul]
        omega
    show ((rows ss n).flatMap fun g => ss.map fun s => g ++ [s]).length = ss.length ^ (n + 1)
    rw [key, rows_len ss n, Nat.pow_succ]
def RowN (K : PySem.W.Frag) (n : Nat) (H : Hp) (v : V) (gs : List Sg) : Prop := gs.length = n ∧ ∃ p xs, v = .ref p ∧ RowAt K H p xs gs
theorem RowN.mono {K : PySem.W.Frag} {P : Addr} {H H' : Hp} {n : Nat} {v : V} {gs : List Sg} (t : GxR.TabG H P) (s : Sm P H H') (h : RowN K n H v gs) : RowN K n H' v gs := by
  obtain ⟨e, p, xs, rfl, h⟩ := h
  exact ⟨e, p, xs, rfl, h.mono t s⟩
theorem RowAt.tp {K : PySem.W.Frag} {H H' : Hp} {p : Addr} {xs : List V} {gs : List Sg} (s : Tp H H') (h : RowAt K H p xs gs) : RowAt K H' p xs gs :=
  ⟨s.sq h.1, paired_mono (fun _ _ ⟨q, e, h⟩ => ⟨q, e, s.sq h⟩) h.2.1, h.2.2⟩
theorem RowN.tp {K : PySem.W.Frag} {H H' : Hp} {n : Nat} {v : V} {gs : List Sg} (s : Tp H H') (h : RowN K n H v gs) : RowN K n H' v gs := by
  obtain ⟨e, p, xs, rfl, h⟩ := h
  exact ⟨e, p, xs, rfl, h.tp s⟩
theorem pow5 {n i : Nat} (hn : n ≤ 5) (hi : i ≤ 4) : n ^ i ≤ 625 := by
  have a : n ^ i ≤ 5 ^ i := Nat.pow_le_pow_left hn i
  have b : (5 : Nat) ^ i ≤ 5 ^ 4 := Nat.pow_le_pow_right (by decide) hi
  exact Nat.le_trans a (Nat.le_trans b (by decide))
section
variable {Pg : Program} {w : World} {K : PySem.W.Frag} {mg : Str → Option Value} {base : Heap} {P : Addr}
abbrev sRws : Stmt := top 37
abbrev nRws : List Str := ["signs", "many", "found", "turn", "longer", "row", "sign"]
theorem scRws : FnScope nRws ["signs", "many"] (defScope sRws) := ⟨rfl, rfl, rfl, by decide +kernel, rfl, by decide +kernel, by decide +kernel⟩
def spRws (K : PySem.W.Frag) (P : Addr) : Sp := fun vs H Q _ => GxR.TabG H P ∧ ∃ (l : Addr) (n : Nat) (xs : List V) (ss : List Sg), vs = [.ref l, .int (n : Int)] ∧ SqL K H l xs ∧ Paired (SgV K H) xs ss ∧ ss.all Sg.ok = true ∧ ss.length ≤ 5 ∧ n ≤ 4 ∧
  ∀ r ys H', Sm P H H' → H r = none → H' r = some (.lst ys) → Paired (RowN K n H') ys (rows ss n) → Q (.ref r) H'
theorem ok_rws {f : Addr} {fd : FuncData} (F : Fun K "_law_rows" "_law_rows" sRws f fd) (T : Tx K mg) : FnOk Pg w K mg base CX0 1 f fd ["signs", "many"] (spRws K P) := by
  refine F.ok scRws (fun vs H Q E h => ?_) (fun cdv A outer s H vs Q E hr h => ?_)
  · obtain ⟨_, _, _, _, _, rfl, _⟩ := h
    rfl
  · obtain ⟨t, l, n, xs, ss, rfl, hl, hg, hok, h5, h4, k⟩ := h
    refine ⟨_, pss_cons (ps_set (i := 2) scRws.nd rfl (Or.inl rfl) (pe_lst (pa_cons (pe_tup pa_nil) pa_nil)))
      (pss_cons (ps_for PassesOwn.never rfl (pi_range1 (by rfl) T.range (pa_cons (pv 1) pa_nil)) (pg_name (i := 3) scRws.nd rfl (Or.inl rfl))
        (pss_cons (ps_set (i := 4) scRws.nd rfl (Or.inl rfl) (pe_lst pa_nil))
        (pss_cons (ps_for PassesOwn.never rfl (pi_list (pv 2)) (pg_name (i := 5) scRws.nd rfl (Or.inr rfl))
          (pss_one (ps_set (i := 4) scRws.nd rfl (Or.inl rfl) (pe_op op_cat (pv 4)
            (pe_lc (own := [("sign", 6)]) (g := gName 6) (tt := tYes) rfl scRws.nd (pi_list (pv 0)) (blkOk_by (N := nRws) (sc := defScope sRws) (by decide +kernel)) (fun _ _ _ _ _ => pg_name (i := 6) scRws.nd rfl (Or.inl rfl)) (fun _ _ _ _ _ => pts_nil)
              (fun _ _ _ _ _ => pe_op (show OpR _ _ (rCatA K) from op_catA) (pv 5) (pe_tup (pa_cons (pv 6) pa_nil))))))))
        (pss_one (ps_set (i := 2) scRws.nd rfl (Or.inl rfl) (pv 4))))))
      (pss_one (ps_ret (pv 2)))), ?_⟩
    have small : ∀ {m : Nat}, m ≤ 10000 → m ≤ sizeLine := fun h => Nat.le_trans h (by decide)
    have nP : ∀ {H' : Hp} {a : Addr}, GxR.TabG H' P → H' a = none → a ≠ P := fun t e z => by
      obtain ⟨ps, q, _⟩ := t
      rw [z, q] at e
      cases e
    have lg : xs.length = ss.length := Paired.length hg
    refine ⟨Nat.zero_le _, fun A0 hA => ⟨(by show 1 ≤ sizeLine; decide), fun F0 hF => ?_⟩⟩
    have s1 : Sm P H (upd H A0 (.tup [])) := Sm.new t hA
    have s2 := s1.trans (Sm.new (o := .lst [.ref A0]) s1.2 hF)
    have nAF : A0 ≠ F0 := ne_of_none upd_same hF
    refine ⟨_, rfl, n, rfl, by omega, by omega, for_range (lo := 0) (n := n) (fun i σ H' => ∃ (Fa : Addr) (ys : List V) (v3 v4 v5 : Option V), σ = [some (.ref l), some (.int (n : Int)), some (.ref Fa), v3, v4, v5, none] ∧
      Sm P H H' ∧ H Fa = none ∧ H' Fa = some (.lst ys) ∧ Paired (RowN K i H') ys (rows ss i)) ⟨F0, [.ref A0], none, none, none, rfl, s2, s1.free t hF, upd_same, .cons ⟨rfl, A0, [], rfl, .inl (.inl (by rw [upd_ne nAF, upd_same])), .nil, rfl, Nat.zero_le _⟩ .nil⟩ ?_ ?_⟩
    · rintro i σ H' hi ⟨Fa, ys, v3, v4, v5, rfl, m1, hFa0, hFa, hys⟩
      have ly : ys.length = ss.length ^ i := by rw [Paired.length hys, rows_len]
      have py : ys.length ≤ 625 := by rw [ly]; exact pow5 h5 (by omega)
      refine ⟨Nat.zero_le _, fun L0 hL => ?_⟩
      have m2 : Sm P H (upd H' L0 (.lst [])) := m1.trans (Sm.new m1.2 hL)
      have nFL : Fa ≠ L0 := ne_of_none hFa hL
      refine ⟨_, rfl, Fa, rfl, ⟨_, SqL.of (by rw [upd_ne nFL]; exact hFa)⟩, for_list (K := K) (a := Fa) (xs := ys) (fun j σ H'' => ∃ (La : Addr) (zs : List V) (v3 v5 : Option V), σ = [some (.ref l), some (.int (n : Int)), some (.ref Fa), v3, some (.ref La), v5, none] ∧
        Sm P H H'' ∧ H La = none ∧ H'' Fa = some (.lst ys) ∧ H'' La = some (.lst zs) ∧ zs.length = j * ss.length ∧ Paired (RowN K i H'') ys (rows ss i) ∧ Paired (RowN K (i + 1) H'') zs (((rows ss i).take j).flatMap fun g => ss.map fun s => g ++ [s]))
        ⟨L0, [], _, v5, rfl, m2, m1.free t hL, by rw [upd_ne nFL]; exact hFa, upd_same, by simp, paired_mono (fun _ _ h => h.tp (Tp.new hL)) hys, .nil⟩ (fun j σ H'' _ ⟨_, _, _, _, _, _, _, q, _⟩ => SqL.of q) ?_ ?_⟩
      · rintro j y σ H'' hy ⟨La, zs, v3, v5, rfl, m3, hLa0, hFa3, hLa3, lz, hys3, hzs⟩
        obtain ⟨g, hgj, lgi, p, vs, rfl, hrow⟩ := paired_get hys3 hy
        have hj : j < ys.length := (List.getElem?_eq_some_iff.mp hy).1
        refine ⟨_, rfl, _, rfl, l, rfl, ⟨_, m3.lst t hl⟩, fun D hD => ?_⟩
        have nD : D ≠ P := nP m3.2 hD
        have D0 : H D = none := m3.free t hD
        refine lc_list (K := K) (a := l) (xs := xs) (fun c G => ∃ ws, Sm P H G ∧ Tp H'' G ∧ G Fa = some (.lst ys) ∧ G La = some (.lst zs) ∧ G D = some (.lst ws) ∧ ws.length = c ∧ Paired (RowN K (i + 1) G) ws ((ss.take c).map fun s => g ++ [s]))
          ⟨[], m3.trans (Sm.new m3.2 hD), Tp.new hD, by rw [upd_ne (ne_of_none hFa3 hD)]; exact hFa3, by rw [upd_ne (ne_of_none hLa3 hD)]; exact hLa3, upd_same, rfl, .nil⟩
          (fun c G _ ⟨_, q, _⟩ => q.lst t hl) ?_ ?_
        · rintro c x G hx ⟨ws, q1, q2, q3, q4, q5, q6, q7⟩
          obtain ⟨sg, hsg, sq, rfl, hsq0⟩ := paired_get hg hx
          have hc : c < xs.length := (List.getElem?_eq_some_iff.mp hx).1
          refine ⟨rfl, _, rfl, _, rfl, (by show 1 ≤ sizeLine; decide), fun T1 hT1 => ?_⟩
          have q8 : Tp G (upd G T1 (.tup [.ref sq])) := Tp.new hT1
          have q9 : Sm P H (upd G T1 (.tup [.ref sq])) := q1.trans (Sm.new q1.2 hT1)
          have hrow1 : RowAt K (upd G T1 (.tup [.ref sq])) p vs g := hrow.tp (q2.trans q8)
          have hD1 : upd G T1 (.tup [.ref sq]) D = some (.lst ws) := by
            rw [upd_ne (ne_of_none q5 hT1)]
            exact q5
          have lv : vs.length = g.length := Paired.length hrow.2.1
          have sgok : sg.ok = true := all_get hok hsg
          have okg : (g ++ [sg]).all Sg.ok = true := by
            rw [List.all_append, hrow.2.2.1, List.all_cons, List.all_nil, sgok]
            rfl
          have fin : ∀ (z : Addr) (G2 : Hp), Sm P H G2 → Tp (upd G T1 (.tup [.ref sq])) G2 → G2 Fa = some (.lst ys) → G2 La = some (.lst zs) → G2 D = some (.lst ws) → SqT K G2 z (vs ++ [.ref sq]) →
              ∃ acc, G2 D = some (.lst acc) ∧ acc.length < sizeLine ∧ ∃ ws, Sm P H (upd G2 D (.lst (acc ++ [.ref z]))) ∧ Tp H'' (upd G2 D (.lst (acc ++ [.ref z]))) ∧ upd G2 D (.lst (acc ++ [.ref z])) Fa = some (.lst ys) ∧ upd G2 D (.lst (acc ++ [.ref z])) La = some (.lst zs) ∧
                upd G2 D (.lst (acc ++ [.ref z])) D = some (.lst ws) ∧ ws.length = c + 1 ∧ Paired (RowN K (i + 1) (upd G2 D (.lst (acc ++ [.ref z])))) ws ((ss.take (c + 1)).map fun s => g ++ [s]) := by
            intro z G2 r1 r2 r3 r4 r5 r6
            have tD : Tp G2 (upd G2 D (.lst (ws ++ [.ref z]))) := Tp.lst r5
            have allT := (q8.trans r2).trans tD
            refine ⟨ws, r5, Nat.lt_of_lt_of_le (by omega : ws.length < 10000) (by decide), ws ++ [.ref z], r1.mut D0 nD, q2.trans allT, ?_, ?_, upd_same, by rw [List.length_append, q6]; rfl, ?_⟩
            · rw [upd_ne (ne_of_none hFa3 hD)]
              exact r3
            · rw [upd_ne (ne_of_none hLa3 hD)]
              exact r4
            · rw [take_snoc hsg, List.map_append]
              refine paired_append (paired_mono (fun _ _ h => h.tp allT) q7) (.cons ⟨by rw [List.length_append, lgi]; rfl, z, _, rfl, tD.sq r6, ?_, okg, ?_⟩ .nil)
              · exact paired_append (sgs_tp ((q2.trans allT)) hrow.2.1) (.cons ⟨sq, rfl, (r1.mut D0 nD).tup t hsq0⟩ .nil)
              · rw [List.length_append, lgi]
                show i + 1 ≤ 100000
                omega
          have f3 : upd G T1 (.tup [.ref sq]) Fa = some (.lst ys) := by
            rw [upd_ne (ne_of_none q3 hT1)]
            exact q3
          have f4 : upd G T1 (.tup [.ref sq]) La = some (.lst zs) := by
            rw [upd_ne (ne_of_none q4 hT1)]
            exact q4
          refine ⟨p, T1, vs, [.ref sq], rfl, rfl, hrow1.1, .inl (.inl upd_same), small (by rw [lv, lgi]; show i + 1 ≤ 10000; omega), fun e => ?_, fun _ e => by simp at e, fun _ _ T2 hT2 => ?_⟩
          · refine fin T1 _ q9 (Tp.refl _) f3 f4 hD1 (.inl (.inl ?_))
            rw [upd_same, e]
            rfl
          · refine fin T2 _ (q9.trans (Sm.new q9.2 hT2)) (Tp.new hT2) ?_ ?_ ?_ (.inl (.inl upd_same))
            · rw [upd_ne (ne_of_none f3 hT2)]
              exact f3
            · rw [upd_ne (ne_of_none f4 hT2)]
              exact f4
            · rw [upd_ne (ne_of_none hD1 hT2)]
              exact hD1
        · rintro G ⟨ws, q1, q2, q3, q4, q5, q6, q7⟩
          rw [lg, List.take_length] at q7
          refine ⟨La, D, _, _, rfl, rfl, q4, q5, ?_, fun L2 hL2 => ?_⟩
          · have : zs.length ≤ 625 * 5 := by rw [lz]; exact Nat.mul_le_mul (by omega) h5
            exact small (by omega)
          have tL : Tp G (upd G L2 (.lst (zs ++ ws))) := Tp.new hL2
          refine ⟨L2, zs ++ ws, _, _, rfl, q1.trans (Sm.new q1.2 hL2), q1.free t hL2, ?_, upd_same, ?_, paired_mono (fun _ _ h => h.tp (q2.trans tL)) hys3, ?_⟩
          · rw [upd_ne (ne_of_none q3 hL2)]
            exact q3
          · rw [List.length_append, lz, q6, Nat.succ_mul]
            omega
          · rw [take_snoc hgj, List.flatMap_append]
            refine paired_append (paired_mono (fun _ _ h => h.tp (q2.trans tL)) hzs) ?_
            rw [List.flatMap_cons, List.flatMap_nil, List.append_nil]
            exact paired_mono (fun _ _ h => h.tp tL) q7
      · rintro σ H'' ⟨La, zs, v3, v5, rfl, m3, hLa0, hFa3, hLa3, lz, hys3, hzs⟩
        rw [Paired.length hys, List.take_length] at hzs
        exact ⟨_, rfl, La, zs, _, _, _, rfl, m3, hLa0, hLa3, hzs⟩
    · rintro σ H' ⟨Fa, ys, v3, v4, v5, rfl, m1, hFa0, hFa, hys⟩
      exact ⟨_, rfl, k Fa ys H' m1 hFa0 hFa hys⟩
end
end K6

set_option maxRecDepth 100000
set_option maxHeartbeats 4000000
namespace K6
open PySem PySem.Spec PyProof.Rows L2 So
/-! ### dicts of numbers -/
def dI (l : List (Int × Int)) : List (Key × V) := l.map fun p => (Sum.inl p.1, V.int p.2)
def val : List (Int × Int) → Int → Int
  | [], _ => 0
  | p :: r, x => if p.1 = x then p.2 else val r x
def has (l : List (Int × Int)) (x : Int) : Bool := l.any fun p => decide (p.1 = x)
def putI (l : List (Int × Int)) (x v : Int) : List (Int × Int) := if has l x = true then l.map (fun p => if p.1 = x then (p.1, v) else p) else l ++ [(x, v)]
theorem inl_dec (a b : Int) : decide ((Sum.inl a : Key) = Sum.inl b) = decide (a = b) := by
  by_cases h : a = b
  · subst h
    simp
  · rw [decide_eq_false h, decide_eq_false (fun q => h (Sum.inl.inj q))]
theorem valV_dI : ∀ (l : List (Int × Int)) (x : Int), valV (dI l) (.inl x) = if has l x = true then some (V.int (val l x)) else none
  | [], x => rfl
  | p :: r, x => by
    have ih := valV_dI r x
    unfold valV dI at ih ⊢
    rw [List.map_cons, List.find?_cons, inl_dec]
    unfold has val
    rw [List.any_cons]
    by_cases h : p.1 = x
    · rw [decide_eq_true h, if_pos h]
      rfl
    · rw [decide_eq_false h, if_neg h, Bool.false_or]
      exact ih
theorem val_none : ∀ (l : List (Int × Int)) (x : Int), has l x = false → val l x = 0
  | [], _, _ => rfl
  | p :: r, x, h => by
    unfold has at h
    rw [List.any_cons, Bool.or_eq_false_iff] at h
    unfold val
    rw [if_neg (of_decide_eq_false h.1)]
    exact val_none r x h.2
theorem get_val (l : List (Int × Int)) (x : Int) : (valV (dI l) (.inl x)).getD (.int 0) = .int (val l x) := by
  rw [valV_dI]
  cases h : has l x with
  | true => rfl
  | false =>
    rw [val_none l x h]
    rfl
theorem any_dI (l : List (Int × Int)) (x : Int) : ((dI l).any fun kv => decide (kv.1 = .inl x)) = has l x := by
  unfold dI has
  rw [List.any_map]
  congr 1
  funext p
  exact inl_dec p.1 x
theorem put_dI (l : List (Int × Int)) (x v : Int) : putK (dI l) (.inl x) (.int v) = dI (putI l x v) := by
  unfold putK putI
  rw [any_dI]
  cases h : has l x with
  | true =>
    rw [if_pos rfl, if_pos rfl]
    unfold dI
    rw [List.map_map, List.map_map]
    refine List.map_congr_left fun p _ => ?_
    show (if (Sum.inl p.1 : Key) = .inl x then ((Sum.inl p.1 : Key), V.int v) else (Sum.inl p.1, V.int p.2)) = (Sum.inl (if p.1 = x then (p.1, v) else p).1, V.int (if p.1 = x then (p.1, v) else p).2)
    by_cases e : p.1 = x
    · rw [if_pos e, if_pos (congrArg Sum.inl e)]
    · rw [if_neg e, if_neg (fun q => e (Sum.inl.inj q))]
  | false =>
    rw [if_neg Bool.false_ne_true, if_neg Bool.false_ne_true]
    unfold dI
    rw [List.map_append]
    rfl
theorem val_append : ∀ (l : List (Int × Int)) (x v y : Int), has l x = false → val (l ++ [(x, v)]) y = if y = x then v else val l y
  | [], x, v, y, _ => by
    show (if x = y then v else 0) = if y = x then v else 0
    by_cases h : x = y
    · rw [if_pos h, if_pos h.symm]
    · rw [if_neg h, if_neg (fun q => h q.symm)]
  | p :: r, x, v, y, h => by
    unfold has at h
    rw [List.any_cons, Bool.or_eq_false_iff] at h
    have hp : ¬ p.1 = x := of_decide_eq_false h.1
    show (if p.1 = y then p.2 else val (r ++ [(x, v)]) y) = if y = x then v else (if p.1 = y then p.2 else val r y)
    rw [val_append r x v y h.2]
    by_cases e : p.1 = y
    · rw [if_pos e, if_pos e, if_neg (fun q => hp (e.trans q))]
    · rw [if_neg e, if_neg e]
theorem val_map : ∀ (l : List (Int × Int)) (x v y : Int), has l x = true → val (l.map (fun p => if p.1 = x then (p.1, v) else p)) y = if y = x then v else val l y
  | [], x, v, y, h => by cases h
  | p :: r, x, v, y, h => by
    rw [List.map_cons]
    by_cases hp : p.1 = x
    · rw [if_pos hp]
      show (if p.1 = y then v else val _ y) = if y = x then v else (if p.1 = y then p.2 else val r y)
      by_cases e : p.1 = y
      · rw [if_pos e, if_pos (e.symm.trans hp)]
      · rw [if_neg e, if_neg (fun q => e (hp.trans q.symm)), if_neg e]
        cases hr : has r x with
        | true => rw [val_map r x v y hr, if_neg (fun q => e (hp.trans q.symm))]
        | false =>
          have : r.map (fun p => if p.1 = x then (p.1, v) else p) = r := by
            refine (List.map_congr_left fun q hq => ?_).trans (List.map_id r)
            rw [if_neg]
            · rfl
            · intro z
              unfold has at hr
              rw [List.any_eq_false] at hr
              exact hr q hq (decide_eq_true z)
          rw [this]
    · rw [if_neg hp]
      show (if p.1 = y then p.2 else val _ y) = if y = x then v else (if p.1 = y then p.2 else val r y)
      have hr : has r x = true := by
        unfold has at h ⊢
        rw [List.any_cons, decide_eq_false hp, Bool.false_or] at h
        exact h
      rw [val_map r x v y hr]
      by_cases e : p.1 = y
      · rw [if_pos e, if_pos e, if_neg (fun q => hp (e.trans q))]
      · rw [if_neg e, if_neg e]
theorem val_put (l : List (Int × Int)) (x v y : Int) : val (putI l x v) y = if y = x then v else val l y := by
  unfold putI
  cases h : has l x with
  | true =>
    rw [if_pos rfl]
    exact val_map l x v y h
  | false =>
    rw [if_neg Bool.false_ne_true]
    exact val_append l x v y h
def ks (l : List (Int × Int)) : List Int := l.map (·.1)
theorem has_iff (l : List (Int × Int)) (x : Int) : has l x = true ↔ x ∈ ks l := by
  unfold has ks
  rw [List.any_eq_true, List.mem_map]
  constructor
  · intro ⟨p, h1, h2⟩
    exact ⟨p, h1, of_decide_eq_true h2⟩
  · intro ⟨p, h1, h2⟩
    exact ⟨p, h1, decide_eq_true h2⟩
theorem ks_put (l : List (Int × Int)) (x v : Int) : ks (putI l x v) = if has l x = true then ks l else ks l ++ [x] := by
  unfold putI
  cases h : has l x with
  | true =>
    rw [if_pos rfl, if_pos rfl]
    unfold ks
    rw [List.map_map]
    refine List.map_congr_left fun p _ => ?_
    show (if p.1 = x then (p.1, v) else p).1 = p.1
    split <;> rfl
  | false =>
    rw [if_neg Bool.false_ne_true, if_neg Bool.false_ne_true]
    unfold ks
    rw [List.map_append]
    rfl
/-- keys are unlike and from 0 up to m -/
def KeysIn (l : List (Int × Int)) (m : Int) : Prop := (ks l).Nodup ∧ ∀ x ∈ ks l, 0 ≤ x ∧ x ≤ m
theorem KeysIn.put {l : List (Int × Int)} {m x v : Int} (h : KeysIn l m) (h0 : 0 ≤ x) (hm : x ≤ m) : KeysIn (putI l x v) m := by
  unfold KeysIn
  rw [ks_put]
  cases e : has l x with
  | true =>
    rw [if_pos rfl]
    exact h
  | false =>
    rw [if_neg Bool.false_ne_true]
    refine ⟨?_, fun y hy => ?_⟩
    · refine List.nodup_append.mpr ⟨h.1, by simp, fun a ha b hb => ?_⟩
      have hb' : b = x := by simpa using hb
      intro q
      rw [q, hb'] at ha
      have := (has_iff l x).mpr ha
      rw [e] at this
      cases this
    · rcases List.mem_append.mp hy with z | z
      · exact h.2 y z
      · have : y = x := by simpa using z
        rw [this]
        exact ⟨h0, hm⟩
theorem nodup_bound : ∀ (n : Nat) (l : List Int), l.Nodup → (∀ x ∈ l, 0 ≤ x ∧ x < n) → l.length ≤ n
  | 0, [], _, _ => Nat.le_refl _
  | 0, a :: l, _, h => by
    have := h a (List.mem_cons_self ..)
    omega
  | n + 1, l, nd, h => by
    by_cases hm : ((n : Nat) : Int) ∈ l
    · have ih := nodup_bound n (l.erase (n : Int)) (nd.erase _) (fun x hx => by
        have q := (nd.mem_erase_iff).mp hx
        have := h x q.2
        have ne : x ≠ (n : Int) := q.1
        omega)
      rw [List.length_erase_of_mem hm] at ih
      omega
    · have ih := nodup_bound n l nd (fun x hx => by
        have := h x hx
        have ne : x ≠ (n : Int) := fun e => hm (e ▸ hx)
        omega)
      omega
theorem KeysIn.len {l : List (Int × Int)} {m : Nat} (h : KeysIn l (m : Int)) : l.length ≤ m + 1 := by
  have := nodup_bound (m + 1) (ks l) h.1 (fun x hx => by have := h.2 x hx; omega)
  unfold ks at this
  rw [List.length_map] at this
  exact this
/-! ### how many ways -/
def fW (k0 k1 : Int) (f : Int → Int) (x : Int) : Int := k1 * f x + k0 * f (x - 1) + if 0 ≤ x then f (x + 1) else 0
def iter (k0 k1 : Int) (a : Int) : Nat → Int → Int
  | 0 => fun x => if x = a then 1 else 0
  | n + 1 => fW k0 k1 (iter k0 k1 a n)
def ways (k0 k1 : Int) (n : Nat) (a : Int) : Int := iter k0 k1 a n 0
/-- what the keys in a row add -/
def adds (k0 k1 : Int) (f : Int → Int) (l : List Int) (x : Int) : Int :=
  (if x ∈ l then k1 * f x else 0) + (if x - 1 ∈ l then k0 * f (x - 1) else 0) + (if x + 1 ∈ l ∧ 0 < x + 1 then f (x + 1) else 0)
theorem adds_nil (k0 k1 : Int) (f : Int → Int) (x : Int) : adds k0 k1 f [] x = 0 := by simp [adds]
theorem adds_snoc (k0 k1 : Int) (f : Int → Int) {l : List Int} {y : Int} (h : y ∉ l) (x : Int) :
    adds k0 k1 f (l ++ [y]) x = adds k0 k1 f l x + (if x = y then k1 * f y else 0) + (if x = y + 1 then k0 * f y else 0) + (if x = y - 1 ∧ 0 < y then f y else 0) := by
  unfold adds
  have m1 : ∀ z : Int, z ∈ l ++ [y] ↔ z ∈ l ∨ z = y := fun z => by simp
  simp only [m1]
  by_cases a1 : x = y
  · subst a1
    have b1 : ¬ x - 1 = x := by omega
    have b2 : ¬ x + 1 = x := by omega
    have b3 : ¬ x = x + 1 := by omega
    have b4 : ¬ x = x - 1 := by omega
    simp only [h, b1, b2, b3, b4, or_true, or_false, false_and, if_true, if_false, false_or]
    omega
  · by_cases a2 : x = y + 1
    · subst a2
      have e1 : y + 1 - 1 = y := by omega
      have b1 : ¬ y + 1 = y := by omega
      have b2 : ¬ y + 1 + 1 = y := by omega
      have b4 : ¬ y + 1 = y - 1 := by omega
      simp only [e1, h, b1, b2, b4, or_true, or_false, false_and, if_true, if_false, false_or]
      omega
    · by_cases a3 : x = y - 1
      · subst a3
        have e1 : y - 1 + 1 = y := by omega
        have b1 : ¬ y - 1 = y := by omega
        have b2 : ¬ y - 1 - 1 = y := by omega
        have b4 : ¬ y - 1 = y + 1 := by omega
        simp only [e1, h, b1, b2, b4, or_true, or_false, false_and, true_and, if_true, if_false, false_or]
        omega
      · have c1 : ¬ x - 1 = y := by omega
        have c2 : ¬ x + 1 = y := by omega
        simp only [a1, a2, a3, c1, c2, or_false, false_and, if_false]
        omega
theorem adds_all (k0 k1 : Int) (f : Int → Int) {l : List Int} (h0 : ∀ x, x ∉ l → f x = 0) (hp : ∀ x ∈ l, 0 ≤ x) (x : Int) : adds k0 k1 f l x = fW k0 k1 f x := by
  unfold adds fW
  have e1 : (if x ∈ l then k1 * f x else 0) = k1 * f x := by
    split
    · rfl
    · rename_i h
      rw [h0 x h, Int.mul_zero]
  have e2 : (if x - 1 ∈ l then k0 * f (x - 1) else 0) = k0 * f (x - 1) := by
    split
    · rfl
    · rename_i h
      rw [h0 _ h, Int.mul_zero]
  have e3 : (if x + 1 ∈ l ∧ 0 < x + 1 then f (x + 1) else 0) = if 0 ≤ x then f (x + 1) else 0 := by
    by_cases hx : 0 ≤ x
    · rw [if_pos hx]
      by_cases hm : x + 1 ∈ l
      · rw [if_pos ⟨hm, by omega⟩]
      · rw [if_neg (fun q => hm q.1), h0 _ hm]
    · rw [if_neg hx, if_neg (fun q => hx (by omega))]
  rw [e1, e2, e3]
end K6

set_option maxRecDepth 100000
set_option maxHeartbeats 4000000
namespace K6
open PySem PySem.Spec PyProof.Rows L2 So
theorem two_puts {k0 k1 : Int} {f : Int → Int} {l : List Int} {y : Int} {d : List (Int × Int)} (hy : y ∉ l) (hv : ∀ x, val d x = adds k0 k1 f l x) (np : ¬ 0 < y) (x : Int) :
    val (putI (putI d y (val d y + k1 * f y)) (y + 1) (val (putI d y (val d y + k1 * f y)) (y + 1) + k0 * f y)) x = adds k0 k1 f (l ++ [y]) x := by
  rw [adds_snoc k0 k1 f hy x, ← hv x]
  simp only [val_put]
  have n1 : ¬ (x = y - 1 ∧ 0 < y) := fun q => np q.2
  rw [if_neg n1]
  by_cases a1 : x = y + 1
  · subst a1
    have b : ¬ y + 1 = y := by omega
    simp only [b, if_true, if_false]
    omega
  · by_cases a2 : x = y
    · subst a2
      have b : ¬ x = x + 1 := by omega
      simp only [b, if_true, if_false]
      omega
    · simp only [a1, a2, if_false]
      omega
theorem three_puts {k0 k1 : Int} {f : Int → Int} {l : List Int} {y : Int} {d d2 : List (Int × Int)} (hy : y ∉ l) (hv : ∀ x, val d x = adds k0 k1 f l x) (hp : 0 < y)
    (e2 : d2 = putI (putI d y (val d y + k1 * f y)) (y + 1) (val (putI d y (val d y + k1 * f y)) (y + 1) + k0 * f y)) (x : Int) :
    val (putI d2 (y - 1) (val d2 (y - 1) + f y)) x = adds k0 k1 f (l ++ [y]) x := by
  rw [adds_snoc k0 k1 f hy x, ← hv x, e2]
  simp only [val_put]
  by_cases a3 : x = y - 1
  · subst a3
    have b1 : ¬ y - 1 = y + 1 := by omega
    have b2 : ¬ y - 1 = y := by omega
    simp only [b1, b2, hp, and_self, if_true, if_false]
    omega
  · by_cases a1 : x = y + 1
    · subst a1
      have b : ¬ y + 1 = y := by omega
      simp only [a3, b, false_and, if_true, if_false]
      omega
    · by_cases a2 : x = y
      · subst a2
        have b : ¬ x = x + 1 := by omega
        simp only [a3, b, false_and, if_true, if_false]
        omega
      · simp only [a1, a2, a3, false_and, if_false]
        omega
theorem not_taken {ys : List Int} (nd : ys.Nodup) {j : Nat} {y : Int} (h : ys[j]? = some y) : y ∉ ys.take j := by
  have hj := (List.getElem?_eq_some_iff.mp h)
  obtain ⟨h1, h2⟩ := hj
  intro hm
  obtain ⟨i, hi⟩ := List.mem_iff_getElem?.mp hm
  have hij : i < j := by
    have := (List.getElem?_eq_some_iff.mp hi).1
    rw [List.length_take] at this
    omega
  rw [List.getElem?_take_of_lt hij] at hi
  have := (List.getElem?_inj (by omega : i < ys.length) nd).mp (hi.trans h.symm)
  omega
section
variable {Pg : Program} {w : World} {K : PySem.W.Frag} {mg : Str → Option Value} {base : Heap} {P : Addr}
abbrev sWys : Stmt := top 38
theorem scWys : FnScope ["kinds", "many", "ahead", "here", "turn", "later", "level"] ["kinds", "many", "ahead"] (defScope sWys) := ⟨rfl, rfl, rfl, by decide +kernel, rfl, by decide +kernel, by decide +kernel⟩
def spWys (K : PySem.W.Frag) (P : Addr) : Sp := Pu P fun vs H R => ∃ (l : Addr) (k0 k1 : Int) (n : Nat) (a : Int), vs = [.ref l, .int (n : Int), .int a] ∧ SqL K H l [.int k0, .int k1] ∧ 0 ≤ k0 ∧ k0 ≤ 10 ∧ 0 ≤ k1 ∧ k1 ≤ 10 ∧ n ≤ 4 ∧ 0 ≤ a ∧ a ≤ 10 ∧ R = fun v _ => v = .int (ways k0 k1 n a)
theorem tk {l : List (Int × Int)} : (dI l).map (·.1) = (ks l).map Sum.inl := by
  unfold dI ks
  rw [List.map_map, List.map_map]
  rfl
theorem ok_wys {f : Addr} {fd : FuncData} (F : Fun K "_law_ways" "_law_ways" sWys f fd) (T : Tx K mg) : FnOk Pg w K mg base CX0 1 f fd ["kinds", "many", "ahead"] (spWys K P) := by
  refine F.ok scWys (fun vs H Q E h => ?_) (fun cdv A outer s H vs Q E hr h => ?_)
  · obtain ⟨_, _, ⟨_, _, _, _, _, rfl, _⟩, _⟩ := h
    rfl
  · obtain ⟨t, _, ⟨l, k0, k1, n, a, rfl, hl, p1, p2, p3, p4, p5, p6, p7, rfl⟩, k⟩ := h
    have hu := hu_of hr
    refine ⟨_, pss_cons (ps_set (i := 3) scWys.nd rfl (Or.inl rfl) (pe_disp (pps_cons (pv 2) pe_int pps_nil) (by rfl) (by rfl) (fun z => by cases z) (by decide)))
      (pss_cons (ps_for PassesOwn.never rfl (pi_range1 (by rfl) T.range (pa_cons (pv 1) pa_nil)) (pg_name (i := 4) scWys.nd rfl (Or.inl rfl))
        (pss_cons (ps_set (i := 5) scWys.nd rfl (Or.inl rfl) pe_dnewK)
        (pss_cons (ps_for PassesOwn.never rfl (pi_list (pe_callB (call_sortedDI rfl) (by rfl) T.sorted (by decide +kernel) (pa_cons (pv 3) pa_nil))) (pg_name (i := 6) scWys.nd rfl (Or.inl rfl))
          (pss_cons (ps_dput hu (pv 5) (pv 6) (pe_op op_add (pe_dget2 hu (pv 5) (pv 6) pe_int ⟨rfl, rfl, rfl, rfl⟩) (pe_op op_mul (pe_ix ix_list (pv 0) pe_int (fun _ _ => rfl)) (pe_dget hu (pv 3) (pv 6) (fun _ _ => rfl)))) rfl)
          (pss_cons (ps_dput hu (pv 5) (pe_op op_add (pv 6) pe_int) (pe_op op_add (pe_dget2 hu (pv 5) (pe_op op_add (pv 6) pe_int) pe_int ⟨rfl, rfl, rfl, rfl⟩) (pe_op op_mul (pe_ix ix_list (pv 0) pe_int (fun _ _ => rfl)) (pe_dget hu (pv 3) (pv 6) (fun _ _ => rfl)))) rfl)
          (pss_one (ps_if (pt_cmpR op_gt (pv 6) pe_int (nomark _))
            (pss_one (ps_dput hu (pv 5) (pe_op op_sub (pv 6) pe_int) (pe_op op_add (pe_dget2 hu (pv 5) (pe_op op_sub (pv 6) pe_int) pe_int ⟨rfl, rfl, rfl, rfl⟩) (pe_dget hu (pv 3) (pv 6) (fun _ _ => rfl))) rfl))
            pss_nil)))))
        (pss_one (ps_set (i := 3) scWys.nd rfl (Or.inl rfl) (pv 5))))))
      (pss_one (ps_ret (pe_dget2 hu (pv 3) pe_int pe_int ⟨rfl, rfl, rfl, rfl⟩)))), ?_⟩
    have nP : ∀ {H' : Hp} {a : Addr}, GxR.TabG H' P → H' a = none → a ≠ P := fun t e z => by
      obtain ⟨ps, q, _⟩ := t
      rw [z, q] at e
      cases e
    refine fun D0 hD0 => ⟨_, rfl, upd_same, [(Sum.inl a, V.int 1)], rfl, (by show 1 ≤ 15; decide), ?_⟩
    have e0 : mergeK [] [((Sum.inl a : Key), V.int 1)] = dI [(a, 1)] := rfl
    rw [e0, upd_upd]
    have s1 : Sm P H (upd H D0 (.dK (dI [(a, 1)]))) := Sm.new t hD0
    refine ⟨_, rfl, n, rfl, by omega, by omega, for_range (lo := 0) (n := n) (fun i σ H' => ∃ (Da : Addr) (d : List (Int × Int)) (v4 v5 v6 : Option V), σ = [some (.ref l), some (.int (n : Int)), some (.int a), some (.ref Da), v4, v5, v6] ∧
      Sm P H H' ∧ H' Da = some (.dK (dI d)) ∧ KeysIn d (a + i) ∧ ∀ x, val d x = iter k0 k1 a i x) ⟨D0, [(a, 1)], none, none, none, rfl, s1, upd_same, ⟨by simp [ks], fun x hx => ?_⟩, fun x => ?_⟩ ?_ ?_⟩
    · have : x = a := by simpa [ks] using hx
      omega
    · show (if a = x then (1 : Int) else 0) = if x = a then 1 else 0
      by_cases e : a = x
      · rw [if_pos e, if_pos e.symm]
      · rw [if_neg e, if_neg (fun q => e q.symm)]
    · rintro i σ H' hi ⟨Da, d, v4, v5, v6, rfl, m1, hDa, hk, hv⟩
      have lend : d.length ≤ 20 := by
        have e : a + (i : Int) = (((a.toNat + i : Nat)) : Int) := by omega
        rw [e] at hk
        have := hk.len
        omega
      refine fun L0 hL => ?_
      have nDL : Da ≠ L0 := ne_of_none hDa hL
      have nLP : L0 ≠ P := nP m1.2 hL
      have hL00 : H L0 = none := m1.free t hL
      have m2 : Sm P H (upd H' L0 (.dK (dI []))) := m1.trans (Sm.new m1.2 hL)
      have hDa2 : upd H' L0 (.dK (dI [])) Da = some (.dK (dI d)) := by
        rw [upd_ne nDL]
        exact hDa
      have hL2 : upd H' L0 (.dK (dI [])) L0 = some (.dK (dI [])) := upd_same
      refine ⟨_, rfl, Da, dI d, ks d, rfl, .inl hDa2, tk, (by unfold ks; rw [List.length_map]; omega), fun ys q perm srt hq => ?_⟩
      have nDq : Da ≠ q := ne_of_none hDa2 hq
      have nLq : L0 ≠ q := ne_of_none hL2 hq
      have m3 := m2.trans (Sm.new (o := .lst (ys.map V.int)) m2.2 hq)
      have ndy : ys.Nodup := (perm.nodup_iff).mpr hk.1
      refine ⟨q, rfl, ⟨_, SqL.of upd_same⟩, for_list (K := K) (a := q) (xs := ys.map V.int) (fun j σ G => ∃ (d' : List (Int × Int)) (v4 v6 : Option V), σ = [some (.ref l), some (.int (n : Int)), some (.int a), some (.ref Da), v4, some (.ref L0), v6] ∧
        Sm P H G ∧ G Da = some (.dK (dI d)) ∧ G q = some (.lst (ys.map V.int)) ∧ G L0 = some (.dK (dI d')) ∧ KeysIn d' (a + i + 1) ∧ ∀ x, val d' x = adds k0 k1 (val d) (ys.take j) x)
        ⟨[], _, v6, rfl, m3, by rw [upd_ne nDq]; exact hDa2, upd_same, by rw [upd_ne nLq]; exact hL2, ⟨List.nodup_nil, fun x hx => by cases hx⟩, fun x => (adds_nil ..).symm⟩ (fun j σ G _ ⟨_, _, _, _, _, _, z, _⟩ => SqL.of z) ?_ ?_⟩
      · rintro j y σ G hy ⟨d', v4, v6, rfl, g1, gD, gq, gL, kk, hv'⟩
        rw [List.getElem?_map] at hy
        obtain ⟨yv, hyv, rfl⟩ : ∃ z, ys[j]? = some z ∧ y = V.int z := by
          cases e : ys[j]? with
          | none =>
            rw [e] at hy
            cases hy
          | some z =>
            rw [e] at hy
            exact ⟨z, rfl, (Option.some.inj hy).symm⟩
        have ym : yv ∈ ks d := (perm.mem_iff).mp (List.mem_of_getElem? hyv)
        obtain ⟨y0, y1⟩ := hk.2 yv ym
        have nt := not_taken ndy hyv
        have gl : ∀ G' : Hp, Sm P H G' → SqL K G' l [.int k0, .int k1] := fun G' s => s.lst t hl
        have len' : ∀ {z : List (Int × Int)}, KeysIn z (a + i + 1) → (dI z).length < sizeLine := fun {z} kz => by
          have e : a + (i : Int) + 1 = (((a.toNat + i + 1 : Nat)) : Int) := by omega
          rw [e] at kz
          have := kz.len
          unfold dI
          rw [List.length_map]
          exact Nat.lt_of_le_of_lt (by omega : z.length ≤ 100) (by decide)
        have gh : ∀ G' : Hp, G' Da = some (.dK (dI d)) → DGet G' Da (.int yv) (some (.int (val d yv))) := fun G' e => by
          have z := DGet.k (k := Sum.inl yv) e
          rw [valV_dI, if_pos ((has_iff d yv).mpr ym)] at z
          exact z
        have cm1 : CMul k1 (val d yv) := .inl ⟨by omega, by omega⟩
        have cm0 : CMul k0 (val d yv) := .inl ⟨by omega, by omega⟩
        -- later[level] = ..
        refine ⟨_, rfl, L0, rfl, .inl ⟨_, .inl gL⟩, _, rfl, _, DGet.k (k := Sum.inl yv) gL, _, rfl, l, _, _, _, rfl, rfl, gl _ g1, atI_nat (j := 1) rfl, _, rfl, _, rfl, Da, _, rfl, gh _ gD, _, _, rfl, rfl, cm1, val d' yv, _, get_val d' yv, rfl, _, rfl, _, rfl, L0, _, rfl, DPut.k (k := Sum.inl yv) gL (len' kk), ?_⟩
        rw [put_dI]
        have gL1 : upd G L0 (.dK (dI (putI d' yv (val d' yv + k1 * val d yv)))) L0 = some (.dK (dI (putI d' yv (val d' yv + k1 * val d yv)))) := upd_same
        have gD1 : upd G L0 (.dK (dI (putI d' yv (val d' yv + k1 * val d yv)))) Da = some (.dK (dI d)) := by
          rw [upd_ne nDL]
          exact gD
        have g2 : Sm P H (upd G L0 (.dK (dI (putI d' yv (val d' yv + k1 * val d yv))))) := g1.mut hL00 nLP
        have kk1 : KeysIn (putI d' yv (val d' yv + k1 * val d yv)) (a + i + 1) := kk.put y0 (by omega)
        -- later[level + 1] = ..
        refine ⟨_, rfl, L0, rfl, .inl ⟨_, .inl gL1⟩, _, rfl, _, _, rfl, rfl, _, DGet.k (k := Sum.inl (yv + 1)) gL1, _, rfl, l, _, _, _, rfl, rfl, gl _ g2, atI_nat (j := 0) rfl, _, rfl, _, rfl, Da, _, rfl, gh _ gD1, _, _, rfl, rfl, cm0, _, _, get_val _ (yv + 1), rfl, _, rfl, _, rfl, _, _, rfl, rfl, L0, _, rfl, DPut.k (k := Sum.inl (yv + 1)) gL1 (len' kk1), ?_⟩
        rw [put_dI, upd_upd]
        have kk2 := kk1.put (x := yv + 1) (v := val (putI d' yv (val d' yv + k1 * val d yv)) (yv + 1) + k0 * val d yv) (by omega) (by omega)
        have h2 := two_puts (d := d') nt hv'
        have h3 := three_puts (d := d') (d2 := putI (putI d' yv (val d' yv + k1 * val d yv)) (yv + 1) (val (putI d' yv (val d' yv + k1 * val d yv)) (yv + 1) + k0 * val d yv)) nt hv'
        have gL2 : upd G L0 (.dK (dI (putI (putI d' yv (val d' yv + k1 * val d yv)) (yv + 1) (val (putI d' yv (val d' yv + k1 * val d yv)) (yv + 1) + k0 * val d yv)))) L0 = some (.dK (dI (putI (putI d' yv (val d' yv + k1 * val d yv)) (yv + 1) (val (putI d' yv (val d' yv + k1 * val d yv)) (yv + 1) + k0 * val d yv)))) := upd_same
        have gD2 : upd G L0 (.dK (dI (putI (putI d' yv (val d' yv + k1 * val d yv)) (yv + 1) (val (putI d' yv (val d' yv + k1 * val d yv)) (yv + 1) + k0 * val d yv)))) Da = some (.dK (dI d)) := by
          rw [upd_ne nDL]
          exact gD
        have gq2 : upd G L0 (.dK (dI (putI (putI d' yv (val d' yv + k1 * val d yv)) (yv + 1) (val (putI d' yv (val d' yv + k1 * val d yv)) (yv + 1) + k0 * val d yv)))) q = some (.lst (ys.map V.int)) := by
          rw [upd_ne nLq.symm]
          exact gq
        have g3 : Sm P H (upd G L0 (.dK (dI (putI (putI d' yv (val d' yv + k1 * val d yv)) (yv + 1) (val (putI d' yv (val d' yv + k1 * val d yv)) (yv + 1) + k0 * val d yv))))) := g1.mut hL00 nLP
        refine ⟨_, rfl, _, _, rfl, rfl, _, rfl, ?_⟩
        generalize ed : putI (putI d' yv (val d' yv + k1 * val d yv)) (yv + 1) (val (putI d' yv (val d' yv + k1 * val d yv)) (yv + 1) + k0 * val d yv) = d2 at *
        refine ite2 (fun pos => ?_) (fun neg => ?_)
        · have pos' : 0 < yv := of_decide_eq_true pos
          refine ⟨_, rfl, L0, rfl, .inl ⟨_, .inl gL2⟩, _, rfl, _, _, rfl, rfl, _, DGet.k (k := Sum.inl (yv - 1)) gL2, _, rfl, _, rfl, Da, _, rfl, gh _ gD2, _, _, get_val _ (yv - 1), rfl, _, rfl, _, rfl, _, _, rfl, rfl, L0, _, rfl, DPut.k (k := Sum.inl (yv - 1)) gL2 (len' kk2), ?_⟩
          rw [put_dI, upd_upd]
          refine ⟨putI d2 (yv - 1) (val d2 (yv - 1) + val d yv), _, _, rfl, g1.mut hL00 nLP, ?_, ?_, upd_same, kk2.put (by omega) (by omega), fun x => ?_⟩
          · rw [upd_ne nDL]
            exact gD
          · rw [upd_ne nLq.symm]
            exact gq
          · rw [take_snoc hyv]
            exact h3 pos' rfl x
        · have neg' : ¬ 0 < yv := fun z => neg (decide_eq_true z)
          refine ⟨d2, _, _, rfl, g3, gD2, gq2, gL2, kk2, fun x => ?_⟩
          rw [take_snoc hyv]
          exact h2 neg' x
      · rintro σ G ⟨d', v4, v6, rfl, g1, gD, gq, gL, kk, hv'⟩
        rw [List.length_map, List.take_length] at hv'
        refine ⟨_, rfl, L0, d', _, _, _, rfl, g1, gL, ?_, fun x => ?_⟩
        · have e : a + ((i + 1 : Nat) : Int) = a + (i : Int) + 1 := by omega
          rw [e]
          exact kk
        · rw [hv' x, adds_all k0 k1 (val d) (fun z hz => ?_) (fun z hz => (hk.2 z ((perm.mem_iff).mp hz)).1) x]
          · show fW k0 k1 (val d) x = fW k0 k1 (iter k0 k1 a i) x
            unfold fW
            rw [hv, hv, hv]
          · refine val_none d z ?_
            cases e : has d z with
            | false => rfl
            | true => exact absurd ((perm.mem_iff).mpr ((has_iff d z).mp e)) hz
    · rintro σ H' ⟨Da, d, v4, v5, v6, rfl, m1, hDa, hk, hv⟩
      refine ⟨_, rfl, Da, rfl, .inl ⟨_, .inl hDa⟩, _, DGet.k (k := Sum.inl 0) hDa, ?_⟩
      rw [get_val, hv]
      exact k _ _ m1 rfl
end
end K6

set_option maxRecDepth 100000
set_option maxHeartbeats 4000000
namespace K6
open PySem PySem.Spec PyProof.Rows L2 So
/-! ### documents as keys of a dict -/
mutual
def nkN : Nd → NestedKey
  | .tx t => .tup [.text "text", .text t]
  | .el l ds => .tup [.text "element", .text l, .tup (nkNs ds)]
def nkNs : List Nd → List NestedKey
  | [] => []
  | d :: r => nkN d :: nkNs r
end
mutual
theorem nkN_inj : ∀ a b : Nd, nkN a = nkN b → a = b
  | .tx t, .tx u, h => by
    simp only [nkN] at h
    injection h with h
    injection h with _ h
    injection h with h _
    injection h with h
    rw [h]
  | .tx t, .el l ds, h => by
    simp only [nkN] at h
    injection h with h
    injection h with _ h
    injection h with _ h
    cases h
  | .el l ds, .tx t, h => by
    simp only [nkN] at h
    injection h with h
    injection h with _ h
    injection h with _ h
    cases h
  | .el l ds, .el k es, h => by
    simp only [nkN] at h
    injection h with h
    injection h with _ h
    injection h with h1 h
    injection h with h2 _
    injection h1 with h1
    injection h2 with h2
    rw [h1, nkNs_inj ds es h2]
theorem nkNs_inj : ∀ a b : List Nd, nkNs a = nkNs b → a = b
  | [], [], _ => rfl
  | [], _ :: _, h => by
    simp only [nkNs] at h
    cases h
  | _ :: _, [], h => by
    simp only [nkNs] at h
    cases h
  | x :: a, y :: b, h => by
    simp only [nkNs] at h
    injection h with h1 h2
    rw [nkN_inj x y h1, nkNs_inj a b h2]
end
mutual
theorem nkN_deep : ∀ d : Nd, (nkN d).depth ≤ (sgN d).length + 1
  | .tx t => by simp [nkN, NestedKey.depth, NestedKey.depthAll]
  | .el l ds => by
    have ih := nkNs_deep ds
    simp only [nkN, sgN, NestedKey.depth, NestedKey.depthAll, List.length_cons, List.length_append, List.length_nil]
    omega
theorem nkNs_deep : ∀ ds : List Nd, NestedKey.depthAll (nkNs ds) ≤ (sgs ds).length + 1
  | [] => Nat.zero_le _
  | d :: r => by
    have h1 := nkN_deep d
    have h2 := nkNs_deep r
    simp only [nkNs, sgs, NestedKey.depthAll, List.length_append]
    omega
end
def docK (ds : List Nd) : NestedKey := .tup (nkNs ds)
theorem docK_inj {a b : List Nd} (h : docK a = docK b) : a = b := by
  unfold docK at h
  injection h with h
  exact nkNs_inj a b h
theorem docK_deep {ds : List Nd} (h : (sgs ds).length ≤ 5) : (docK ds).depth ≤ 8 := by
  have := nkNs_deep ds
  unfold docK
  simp only [NestedKey.depth]
  omega
abbrev De := List Nd × Addr × Addr
def ent (e : De) : NestedKey × Addr × Value := (docK e.1, e.2.1, .ref e.2.2)
def dnO (P : Program) (w : World) (d : Addr) (xs : List (NestedKey × Addr × Value)) : HO := .ext fun h => xs.length ≤ sizeLine ∧ (d == sysModules) = false ∧ (xs.map (·.1)).Nodup ∧
  ∃ o es ep, h.get? d = some o ∧ o.ExactDict ∧ o.data = .dict es ep ∧ es.toList = xs.map (entryOfKey (nestedKind P w))
/-- the documents that the dict at d has, each with the place of its tuple, and of its row -/
def DocsAt (P : Program) (w : World) (K : PySem.W.Frag) (H : Hp) (d : Addr) (l : List De) : Prop := H d = some (dnO P w d (l.map ent)) ∧
  ∀ e ∈ l, ∃ xs, SqT K H e.2.1 xs ∧ DpAll K H xs (ndsD e.1) ∧ (sgs e.1).length ≤ 5
section
variable {X : Cx} {pins : List (Addr × Obj)} {σ : L2.St} {H : Hp} {s : Shared}
mutual
theorem nk_is (I : Inv X pins σ H s) : ∀ (d : Nd) (v : V) (u : Value), Dp X.K H v (ndD d) → RelV v u → NestedIs s.heap (nkN d) u
  | .tx z, v, u, h, r => by
    obtain ⟨a, rfl, h1⟩ := nd_tx h
    cases r
    obtain ⟨its, rv, ⟨o, ho, hc, n, hd⟩, _⟩ := I.tuple h1
    obtain ⟨u1, u2, rfl, ⟨t1, rfl⟩, ⟨t2, rfl⟩⟩ := vals2 rv
    simp only [nkN]
    exact .tup ho hc hd (.cons (.text _ _) (.cons (.text _ _) .nil))
  | .el l ds, v, u, h, r => by
    obtain ⟨a, b, ys, rfl, h1, h2, h3⟩ := nd_el h
    cases r
    obtain ⟨its, rv, ⟨o, ho, hc, n, hd⟩, _⟩ := I.tuple h1
    obtain ⟨u1, rv, rfl, ⟨t1, rfl⟩, rv1⟩ : ∃ u1 us, its = u1 :: us ∧ RelV (.str "element") u1 ∧ Vals [V.str l, .ref b] us := by
      cases rv with
      | cons p q => exact ⟨_, _, rfl, p, q⟩
    obtain ⟨u2, u3, rfl, ⟨t2, rfl⟩, r3⟩ := vals2 rv1
    cases r3
    obtain ⟨its2, rv2, ⟨o2, ho2, hc2, n2, hd2⟩, _⟩ := I.tuple h2
    simp only [nkN]
    exact .tup ho hc hd (.cons (.text _ _) (.cons (.text _ _) (.cons (.tup ho2 hc2 hd2 (nks_is I ds ys its2 h3 rv2)) .nil)))
theorem nks_is (I : Inv X pins σ H s) : ∀ (ds : List Nd) (xs : List V) (us : List Value), DpAll X.K H xs (ndsD ds) → Vals xs us → NestedAll s.heap (nkNs ds) us
  | [], xs, us, h, r => by
    simp only [ndsD] at h
    cases all_nil' h
    cases r
    exact .nil
  | d :: ds, xs, us, h, r => by
    simp only [ndsD] at h
    obtain ⟨v, vs, rfl, h1, h2⟩ := all_cons' h
    cases r with
    | cons r1 r2 => exact .cons (nk_is I d v _ h1 r1) (nks_is I ds vs _ h2 r2)
end
theorem doc_is (I : Inv X pins σ H s) {ds : List Nd} {a : Addr} {xs : List V} (h1 : SqT X.K H a xs) (h2 : DpAll X.K H xs (ndsD ds)) (h3 : (sgs ds).length ≤ 5) : (nestedKind X.prog X.w).is s.heap (docK ds) a := by
  obtain ⟨its, rv, ⟨o, ho, hc, n, hd⟩, _⟩ := I.tuple h1
  exact ⟨.tup ho hc hd (nks_is I ds xs its h2 rv), docK_deep h3⟩
theorem docs_of (I : Inv X pins σ H s) {d : Addr} {l : List De} (h : DocsAt X.prog X.w X.K H d l) : (l.map ent).length ≤ sizeLine ∧ (d == sysModules) = false ∧ s.heap.DictOfH (nestedKind X.prog X.w) d (l.map ent) := by
  obtain ⟨⟨z, hd, nd, o, es, ep, ho, hx, hdat, he⟩, _, _⟩ := (show ObjOk X.prog X.w H s.heap d (dnO X.prog X.w d (l.map ent)) from I.hok d _ h.1)
  refine ⟨z, hd, o, es, ep, ho, hx, hdat, he, fun x hx => ?_, nd⟩
  obtain ⟨e, he, rfl⟩ := List.mem_map.mp hx
  obtain ⟨xs, h1, h2, h3⟩ := h.2 e he
  exact doc_is I h1 h2 h3
theorem docs_not {l : List De} {ds : List Nd} (h : ∀ e ∈ l, e.1 ≠ ds) : atKey (l.map ent) (docK ds) = none := by
  refine atKey_none_of_get fun j p e => ?_
  obtain ⟨x, hx, hxe⟩ := List.mem_map.mp (List.mem_of_getElem? e)
  exact h x hx (docK_inj (congrArg Prod.fst hxe))
theorem dn_ok {P : Program} {w : World} {H' : Hp} {h : Heap} {d : Addr} {xs : List (NestedKey × Addr × Value)} (h1 : xs.length ≤ sizeLine) (h2 : (d == sysModules) = false) (h3 : (xs.map (·.1)).Nodup)
    (h4 : ∃ o es ep, h.get? d = some o ∧ o.ExactDict ∧ o.data = .dict es ep ∧ es.toList = xs.map (entryOfKey (nestedKind P w))) : ObjOk P w H' h d (dnO P w d xs) := by
  obtain ⟨o, es, ep, e, r⟩ := h4
  exact ⟨⟨h1, h2, h3, o, es, ep, e, r⟩, ⟨o, e⟩, fun g1 g2 ⟨z1, z2, z3, o', es', ep', e', r'⟩ k => ⟨z1, z2, z3, o', es', ep', k _ e', r'⟩⟩
end
def tDNewN (P : Program) (w : World) : TE := fun _ H Q => ∀ p, H p = none → Q (.ref p) (upd H p (dnO P w p []))
def KeyAt (K : PySem.W.Frag) (H : Hp) (b : Addr) (ds : List Nd) : Prop := ∃ ys, SqT K H b ys ∧ DpAll K H ys (ndsD ds) ∧ (sgs ds).length ≤ 5
def tGetN (P : Program) (w : World) (K : PySem.W.Frag) (td ty tx : TE) : TE := fun σ H Q => td σ H fun x H1 => ∃ a l, x = .ref a ∧ DocsAt P w K H1 a l ∧ ty σ H1 fun y H2 => tx σ H2 fun z H3 =>
  ∃ b ds l', y = .ref b ∧ DocsAt P w K H3 a l' ∧ KeyAt K H3 b ds ∧ (∀ e ∈ l', e.1 ≠ ds) ∧ Q z H3
def sPutN (P : Program) (w : World) (K : PySem.W.Frag) (td ty tv : TE) : TS := fun D σ H => tv σ H fun v H1 => td σ H1 fun x H2 => ty σ H2 fun y H3 =>
  ∃ a l r b ds, x = .ref a ∧ v = .ref r ∧ y = .ref b ∧ DocsAt P w K H3 a l ∧ KeyAt K H3 b ds ∧ (∀ e ∈ l, e.1 ≠ ds) ∧ l.length < 10000 ∧ D.nx σ (upd H3 a (dnO P w a ((l ++ [(ds, b, r)]).map ent)))
def rLenN (P : Program) (w : World) (K : PySem.W.Frag) : List V → Hp → VK → Prop := fun xs H Q => ∃ p l, xs = [.ref p] ∧ DocsAt P w K H p l ∧ Q (.int ((l.length : Nat) : Int)) H
section
variable {X : Cx} {o e f i value : Expr} {apos cpos pos pos' : Pos} {td ty tx tv : TE}
theorem pe_dnewN : PE X (.Dict [] [] pos) (tDNewN X.prog X.w) := ⟨fun pins s σ H Q I h => by
  refine wpAny_Dict_empty ⟨.ref s.heap.objs.size, _, I.laid (a := s.heap.objs.size) (o := dnO X.prog X.w s.heap.objs.size []) (t' := s.toks) (fun _ _ q => Heap.get?_push_of_some _ q) (Nat.le_refl _) ?_, rfl, h _ (I.hok.fresh (Nat.le_refl _))⟩
  exact dn_ok (Nat.zero_le _) (beq_eq_false_iff_ne.mpr (Ne.symm (Nat.ne_of_lt I.big))) List.nodup_nil ⟨_, #[], 0, Heap.get?_push_size _ rfl, ⟨rfl, rfl, rfl⟩, rfl, rfl⟩⟩
theorem pe_getN (hu : X.A.units + 9 < cLine) (ho : PE X o td) (he : PE X e ty) (hf : PE X f tx) (m : M2 X o "get" apos e f cpos) : PE X (.Call (.Attribute o "get" apos) [e, f] [] cpos) (tGetN X.prog X.w X.K td ty tx) := by
  refine ⟨fun pins s σ H Q I h => ?_⟩
  refine wpAny_Call_method m.base m.few m.line PySem.F.plainAttrs_dict PySem.F.slot_dict_get PySem.F.type_dict_get (thn (ho.run pins s σ H _ I h) fun u s1 ⟨x, H1, I1, rx, a, l, ex, d, q1⟩ => ?_)
  subst ex
  obtain rfl : u = Value.ref a := rx
  obtain ⟨_, _, dd⟩ := docs_of I1 d
  refine ⟨dd.typeIs, fun b q => ?_, ?_⟩
  · cases q
    obtain ⟨ob, _, _, h1, h2, _⟩ := dd
    exact ⟨ob, h1, h2.2.1⟩
  rw [m.trees]
  refine Calls.callWith_builtin rfl (Calls.evalArgs_plain (Calls.spliced_cons (thn (he.run pins s1 σ H1 _ I1 q1) fun iv s2 ⟨y, H2, I2, ry, q2⟩ =>
    Calls.spliced_cons (thn (hf.run pins s2 σ H2 _ I2 q2) fun fv s3 ⟨z, H3, I3, rz, b, ds, l', ey, d', ⟨ys, k1, k2, k3⟩, hn, q3⟩ => Calls.spliced_nil ?_))))
  subst ey
  obtain rfl : iv = Value.ref b := ry
  obtain ⟨_, hd, dd'⟩ := docs_of I3 d'
  refine call_meetsIn PySem.F.slot_dict_get dd'.typeIs PySem.F.entry_dict_get (PySem.F.args_dict_get_3 _ _ _) (meetsH_dict_get_default (nestedKind X.prog X.w) a b hd fv) ⟨(show X.A.units + 1 + 8 < cLine by omega), docK ds, l'.map ent, doc_is I3 k1 k2 k3, dd', ?_⟩
  rw [docs_not hn]
  exact ⟨z, H3, I3.tok _, rz, q3⟩
theorem ps_putN (hu : X.A.units + 9 < cLine) (ho : PE X o td) (hi : PE X i ty) (hv : PE X value tv) (hs : swapsWith value (some (.Subscript o i pos')) pos.line X.env = pure false) :
    PS X (.Assign [.Subscript o i pos'] value pos) (sPutN X.prog X.w X.K td ty tv) := by
  refine ⟨fun pins s σ H D I h => ?_⟩
  refine wpAny_Assign_Subscript (thn (hv.run pins s σ H _ I h) fun r s1 ⟨v, H1, I1, rv, q1⟩ => thn (ho.run pins s1 σ H1 _ I1 q1) fun u s2 ⟨x, H2, I2, rx, q2⟩ => thn (hi.run pins s2 σ H2 _ I2 q2) fun iv s3 ⟨y, H3, I3, ry, a, l, r', b, ds, ex, ev, ey, d, ⟨ys, k1, k2, k3⟩, hn, hl, q3⟩ => ?_) hs
  subst ex ev ey
  obtain rfl : u = Value.ref a := rx
  obtain rfl : r = Value.ref r' := rv
  obtain rfl : iv = Value.ref b := ry
  obtain ⟨z, hd, dd⟩ := docs_of I3 d
  refine wpAny_setItem_heap (knd := nestedKind X.prog X.w) (hsz := z) (show X.A.units + 1 + 8 < cLine by omega) (doc_is I3 k1 k2 k3) dd fun h' dd' hs' => ⟨σ, _, ?_, q3⟩
  have e : storedH (l.map ent) (docK ds) b (Value.ref r') = (l ++ [(ds, b, r')]).map ent := by
    rw [storedH_new (docs_not hn), List.map_append]
    rfl
  rw [e] at dd'
  obtain ⟨q, es, ep, hq, h2, h3, h4, _, h5⟩ := dd'
  refine d_write I3 (by rw [d.1]; exact True.intro) hs' ⟨q, hq⟩ (dn_ok ?_ hd h5 ⟨q, es, ep, hq, h2, h3, h4⟩)
  rw [List.length_map, List.length_append, List.length_singleton, sizeLine_eq]
  omega
theorem call_lenN : CallR X (.builtin "len") (rLenN X.prog X.w X.K) := by
  intro pins s σ H xs us Q I r h
  obtain ⟨p, l, rfl, hp, q⟩ := h
  obtain ⟨u, rfl, rx⟩ := vals1 r
  obtain rfl : u = .ref p := rx
  obtain ⟨z, hd, dd⟩ := docs_of I hp
  refine call_len_dictH hd dd (by rw [sizeLine_eq] at z; omega) ⟨.int ((l.length : Nat) : Int), H, I.tok _, ⟨_, by rw [List.length_map]⟩, q⟩
end
end K6

set_option maxRecDepth 100000
set_option maxHeartbeats 4000000
namespace K6
open PySem PySem.Spec PyProof.Rows L2 So
/-! ### rows and their levels, without the program -/
def pre : List Sg → Int
  | [] => 0
  | g :: r => g.d + pre r
theorem pre_append : ∀ a b : List Sg, pre (a ++ b) = pre a + pre b
  | [], b => by simp [pre]
  | x :: a, b => by
    show x.d + pre (a ++ b) = x.d + pre a + pre b
    rw [pre_append a b]
    omega
theorem pre_snoc {gs : List Sg} {i : Nat} {g : Sg} (h : gs[i]? = some g) : pre (gs.take (i + 1)) = pre (gs.take i) + g.d := by
  rw [take_snoc h, pre_append]
  simp [pre]
theorem lev_up : ∀ (gs : List Sg) (i : Nat) (l : Int), (∀ k, k ≤ gs.length → 0 ≤ l + pre (gs.take k)) → lev gs i l = .inr (l + pre gs)
  | [], i, l, _ => by simp [lev, pre]
  | g :: r, i, l, h => by
    have h1 := h 1 (by simp)
    have e1 : pre ((g :: r).take 1) = g.d := by simp [pre]
    rw [e1] at h1
    show (if l + g.d < 0 then _ else lev r (i + 1) (l + g.d)) = _
    rw [if_neg (by omega), lev_up r (i + 1) (l + g.d) (fun k hk => ?_)]
    · show Sum.inr (l + g.d + pre r) = Sum.inr (l + (g.d + pre r))
      rw [Int.add_assoc]
    · have := h (k + 1) (by simp; omega)
      have e : pre ((g :: r).take (k + 1)) = g.d + pre (r.take k) := rfl
      rw [e] at this
      omega
theorem lev_down : ∀ (gs : List Sg) (i : Nat) (l : Int), 0 ≤ l → (∃ k, k ≤ gs.length ∧ l + pre (gs.take k) < 0) → ∃ j, lev gs i l = .inl j
  | [], i, l, h0, ⟨k, hk, hn⟩ => by
    simp [pre] at hn
    omega
  | g :: r, i, l, h0, ⟨k, hk, hn⟩ => by
    show ∃ j, (if l + g.d < 0 then _ else lev r (i + 1) (l + g.d)) = _
    by_cases e : l + g.d < 0
    · rw [if_pos e]
      exact ⟨i, rfl⟩
    · rw [if_neg e]
      cases k with
      | zero =>
        simp [pre] at hn
        omega
      | succ k =>
        have e2 : pre ((g :: r).take (k + 1)) = g.d + pre (r.take k) := rfl
        rw [e2] at hn
        exact lev_down r (i + 1) (l + g.d) (by omega) ⟨k, by simpa using hk, by omega⟩
/-- the levels that a row has come through -/
def Lvs (gs : List Sg) (n : Nat) (ns : List Int) : Prop := ns.length = n + 1 ∧ (∀ y ∈ ns, ∃ i, i ≤ n ∧ y = pre (gs.take i)) ∧ ∀ i, i ≤ n → pre (gs.take i) ∈ ns
theorem Lvs.nil (gs : List Sg) : Lvs gs 0 [0] := ⟨rfl, fun y hy => ⟨0, Nat.le_refl _, by simpa [pre] using hy⟩, fun i hi => by
  have : i = 0 := by omega
  subst this
  simp [pre]⟩
theorem Lvs.snoc {gs : List Sg} {n : Nat} {ns : List Int} (h : Lvs gs n ns) : Lvs gs (n + 1) (ns ++ [pre (gs.take (n + 1))]) := by
  obtain ⟨h1, h2, h3⟩ := h
  refine ⟨by rw [List.length_append, h1]; rfl, fun y hy => ?_, fun i hi => ?_⟩
  · rcases List.mem_append.mp hy with q | q
    · obtain ⟨i, hi, e⟩ := h2 y q
      exact ⟨i, by omega, e⟩
    · exact ⟨n + 1, Nat.le_refl _, by simpa using q⟩
  · by_cases e : i = n + 1
    · subst e
      exact List.mem_append_right _ (by simp)
    · exact List.mem_append_left _ (h3 i (by omega))
theorem min_zero {gs : List Sg} {ns : List Int} (h : Lvs gs gs.length ns) (h2 : ∀ y ∈ ns, (0 : Int) ≤ y) : lev gs 0 0 = .inr (pre gs) ∧ 0 ≤ pre gs ∧ isEnd 0 gs = decide (pre gs = 0) := by
  have al : ∀ k, k ≤ gs.length → 0 ≤ 0 + pre (gs.take k) := fun k hk => by
    have := h2 _ (h.2.2 k hk)
    omega
  have e := lev_up gs 0 0 al
  rw [Int.zero_add] at e
  have p := al gs.length (Nat.le_refl _)
  rw [List.take_length] at p
  refine ⟨e, by omega, ?_⟩
  unfold isEnd
  rw [e]
  show (!decide (pre gs > 0)) = decide (pre gs = 0)
  by_cases z : pre gs = 0
  · rw [decide_eq_true z, decide_eq_false (by omega)]
    rfl
  · rw [decide_eq_false z, decide_eq_true (by omega)]
    rfl
theorem min_else {gs : List Sg} {ns : List Int} {m : Int} (h : Lvs gs gs.length ns) (h1 : m ∈ ns) (h2 : ∀ y ∈ ns, m ≤ y) (hm : ¬ m = 0) : isEnd 0 gs = false := by
  have z : m ≤ 0 := by
    have := h2 _ (h.2.2 0 (Nat.zero_le _))
    simpa [pre] using this
  obtain ⟨i, hi, e⟩ := h.2.1 m h1
  obtain ⟨j, hj⟩ := lev_down gs 0 0 (Int.le_refl _) ⟨i, hi, by omega⟩
  unfold isEnd
  rw [hj]
theorem lev_app : ∀ (gs hs : List Sg) (i : Nat) (l l' : Int), lev gs i l = .inr l' → lev (gs ++ hs) i l = lev hs (i + gs.length) l'
  | [], hs, i, l, l', h => by
    have : l = l' := Sum.inr.inj h
    subst this
    rfl
  | g :: r, hs, i, l, l', h => by
    have h' : (if l + g.d < 0 then Sum.inl i else lev r (i + 1) (l + g.d)) = .inr l' := h
    show (if l + g.d < 0 then Sum.inl i else lev (r ++ hs) (i + 1) (l + g.d)) = _
    by_cases e : l + g.d < 0
    · rw [if_pos e] at h'
      cases h'
    · rw [if_neg e] at h' ⊢
      rw [lev_app r hs (i + 1) (l + g.d) l' h', List.length_cons]
      congr 1
      omega
theorem lev_cl : ∀ (n i : Nat), lev (List.replicate n .cl) i (n : Int) = .inr 0
  | 0, _ => rfl
  | n + 1, i => by
    rw [List.replicate_succ]
    show (if ((n + 1 : Nat) : Int) + (-1) < 0 then Sum.inl i else lev (List.replicate n .cl) (i + 1) (((n + 1 : Nat) : Int) + (-1))) = _
    have e : ((n + 1 : Nat) : Int) + (-1) = (n : Int) := by omega
    rw [e, if_neg (by omega)]
    exact lev_cl n (i + 1)
theorem end_closed {gs : List Sg} {n : Nat} (h : lev gs 0 0 = .inr (n : Int)) : isEnd 0 (gs ++ List.replicate n .cl) = true := by
  unfold isEnd
  rw [lev_app gs _ 0 0 _ h, lev_cl]
  decide
theorem pre_le : ∀ gs : List Sg, pre gs ≤ gs.length
  | [] => by simp [pre]
  | g :: r => by
    have := pre_le r
    show g.d + pre r ≤ ((r.length + 1 : Nat) : Int)
    have d : g.d ≤ 1 := by cases g <;> simp [Sg.d]
    omega
/-- how many rows end -/
def cnt (n : Int) (l : List (List Sg)) : Nat := (l.filter fun g => isEnd n g).length
theorem cnt_snoc {n : Int} {l : List (List Sg)} {j : Nat} {g : List Sg} (h : l[j]? = some g) : cnt n (l.take (j + 1)) = cnt n (l.take j) + if isEnd n g = true then 1 else 0 := by
  unfold cnt
  rw [take_snoc h, List.filter_append, List.length_append]
  congr 1
  by_cases e : isEnd n g = true
  · rw [if_pos e, List.filter_cons_of_pos e]
    rfl
  · rw [if_neg e, List.filter_cons_of_neg e]
    rfl
theorem rows_nodup {ss : List Sg} (h : ss.Nodup) : ∀ n, (rows ss n).Nodup
  | 0 => by simp [rows]
  | n + 1 => by
    show List.Pairwise (· ≠ ·) ((rows ss n).flatMap fun g => ss.map fun s => g ++ [s])
    rw [List.pairwise_flatMap]
    refine ⟨fun g _ => ?_, ?_⟩
    · rw [List.pairwise_map]
      refine List.Pairwise.imp (fun {a b} hab e => hab ?_) h
      have := List.append_cancel_left e
      simpa using this
    · refine List.Pairwise.imp (fun {a b} hab x hx y hy e => hab ?_) (rows_nodup h n)
      obtain ⟨s, _, rfl⟩ := List.mem_map.mp hx
      obtain ⟨u, _, rfl⟩ := List.mem_map.mp hy
      exact (List.append_inj' e rfl).1
theorem nodup_take {α : Type} {l : List α} (nd : l.Nodup) {j : Nat} {y : α} (h : l[j]? = some y) : y ∉ l.take j := by
  obtain ⟨h1, h2⟩ := List.getElem?_eq_some_iff.mp h
  intro hm
  obtain ⟨i, hi⟩ := List.mem_iff_getElem?.mp hm
  have hij : i < j := by
    have := (List.getElem?_eq_some_iff.mp hi).1
    rw [List.length_take] at this
    omega
  rw [List.getElem?_take_of_lt hij] at hi
  have := (List.getElem?_inj (by omega : i < l.length) nd).mp (hi.trans h.symm)
  omega
/-- the documents kept are those of the streams among the rows -/
def Kept (l : List De) (rs : List (List Sg)) : Prop := l.length = cnt 0 rs ∧ ∀ e ∈ l, ∃ g ∈ rs, isEnd 0 g = true ∧ e.1 = nodesOf g
theorem Kept.nil : Kept [] [] := ⟨rfl, fun _ h => nomatch h⟩
theorem Kept.skip {l : List De} {rs : List (List Sg)} {j : Nat} {g : List Sg} (h : Kept l (rs.take j)) (hg : rs[j]? = some g) (he : isEnd 0 g = false) : Kept l (rs.take (j + 1)) := by
  refine ⟨?_, fun e hm => ?_⟩
  · rw [cnt_snoc hg, if_neg (by rw [he]; exact Bool.false_ne_true)]
    exact h.1
  · obtain ⟨x, hx, r⟩ := h.2 e hm
    rw [take_snoc hg]
    exact ⟨x, List.mem_append_left _ hx, r⟩
theorem Kept.more {l : List De} {rs : List (List Sg)} {j : Nat} {g : List Sg} {a b : Addr} (h : Kept l (rs.take j)) (hg : rs[j]? = some g) (he : isEnd 0 g = true) : Kept (l ++ [(nodesOf g, a, b)]) (rs.take (j + 1)) := by
  refine ⟨?_, fun e hm => ?_⟩
  · rw [cnt_snoc hg, if_pos he, List.length_append, h.1]
    rfl
  · rw [take_snoc hg]
    rcases List.mem_append.mp hm with q | q
    · obtain ⟨x, hx, r⟩ := h.2 e q
      exact ⟨x, List.mem_append_left _ hx, r⟩
    · have : e = (nodesOf g, a, b) := by simpa using q
      subst this
      exact ⟨g, List.mem_append_right _ (by simp), he, rfl⟩
theorem Kept.unlike {l : List De} {rs : List (List Sg)} {j : Nat} {g : List Sg} (h : Kept l (rs.take j)) (nd : rs.Nodup) (hg : rs[j]? = some g) (he : isEnd 0 g = true) : ∀ e ∈ l, e.1 ≠ nodesOf g := by
  intro e hm q
  obtain ⟨x, hx, hex, r⟩ := h.2 e hm
  have : x = g := by rw [← signs_nodes hex, ← signs_nodes he, ← r, q]
  subst this
  exact nodup_take nd hg hx
/-! ### all inputs that the law makes -/
def sgsOf (L T : List Str) : List Sg := L.map Sg.op ++ T.map Sg.tx ++ [.cl]
def mostOf (L T : List Str) : Nat := if (sgsOf L T).length < 4 then 5 else 4
def LS : List (List Str) := [["a"], ["a", "b"], ["ab"]]
def XS : List (List Str) := [["x"], [], ["", "x"]]
def goodAt (L T : List Str) (n : Nat) : Bool := decide (((cnt 0 (rows (sgsOf L T) n) : Nat) : Int) = ways (L.length : Nat) (T.length : Nat) n 0) &&
  [0, 1, 2].all fun a : Int => decide (((cnt a (rows (sgsOf L T) n) : Nat) : Int) = ways (L.length : Nat) (T.length : Nat) n a)
def good (L T : List Str) : Bool := (sgsOf L T).all Sg.ok && decide ((sgsOf L T).length ≤ 5) && decide (L.length ≤ 2) && decide (T.length ≤ 2) && decide (sgsOf L T).Nodup && (List.range (mostOf L T)).all (goodAt L T)
theorem all_good : LS.all (fun L => XS.all (good L)) = true := by decide +kernel
end K6

set_option maxRecDepth 100000
set_option maxHeartbeats 4000000
namespace K6
open PySem PySem.Spec PyProof.Rows L2 So
/-! ### rows as data -/
def Sg.D : Sg → PyData
  | .op l => .tuple [.str "open", .str l]
  | .tx t => .tuple [.str "text", .str t]
  | .cl => .tuple [.str "close"]
def Sg.w : Sg → Str
  | .op _ => "open"
  | .tx _ => "text"
  | .cl => "close"
theorem vs0 (g : Sg) : g.vs[0]? = some (.str g.w) := by cases g <;> rfl
theorem c_oc : decide (V.str "open" = V.str "close") = false := dstr (by decide +kernel)
theorem c_to : decide (V.str "text" = V.str "open") = false := dstr (by decide +kernel)
theorem c_tc : decide (V.str "text" = V.str "close") = false := dstr (by decide +kernel)
theorem c_co : decide (V.str "close" = V.str "open") = false := dstr (by decide +kernel)
theorem step_eq (g : Sg) (l : Int) : l + (if decide (V.str g.w = V.str "open") = true then (1 : Int) else 0) - (if decide (V.str g.w = V.str "close") = true then (1 : Int) else 0) = l + g.d := by
  cases g with
  | op z =>
    have e1 : decide (V.str (Sg.op z).w = V.str "open") = true := decide_eq_true rfl
    have e2 : decide (V.str (Sg.op z).w = V.str "close") = false := c_oc
    rw [e1, e2]
    simp [Sg.d]
  | tx z =>
    have e1 : decide (V.str (Sg.tx z).w = V.str "open") = false := c_to
    have e2 : decide (V.str (Sg.tx z).w = V.str "close") = false := c_tc
    rw [e1, e2]
    simp [Sg.d]
  | cl =>
    have e1 : decide (V.str Sg.cl.w = V.str "open") = false := c_co
    have e2 : decide (V.str Sg.cl.w = V.str "close") = true := decide_eq_true rfl
    rw [e1, e2]
    simp [Sg.d]
    omega
def rowD (gs : List Sg) : PyData := .tuple (gs.map Sg.D)
section
variable {K : PySem.W.Frag} {P : Addr} {H H' : Hp}
theorem sg_dp : ∀ (g : Sg) {q : Addr}, SqT K H q g.vs → Dp K H (.ref q) g.D
  | .op l, _, h => .tup h (.cons (.str _) (.cons (.str _) .nil))
  | .tx t, _, h => .tup h (.cons (.str _) (.cons (.str _) .nil))
  | .cl, _, h => .tup h (.cons (.str _) .nil)
theorem sgs_dp : ∀ {xs : List V} {gs : List Sg}, Paired (SgV K H) xs gs → DpAll K H xs (gs.map Sg.D)
  | _, _, .nil => .nil
  | _, _, .cons (b := g) ⟨q, e, h⟩ r => by
    subst e
    exact .cons (sg_dp g h) (sgs_dp r)
theorem row_dp {p : Addr} {xs : List V} {gs : List Sg} (h : RowAt K H p xs gs) : Dp K H (.ref p) (rowD gs) := .tup h.1 (sgs_dp h.2.1)
end
def layS (gs : List Sg) : Bool := gs.all fun g => g.D.canLay0
theorem lay_all : ∀ {gs : List Sg}, layS gs = true → PyData.canLayAll0 (gs.map Sg.D) = true
  | [], _ => rfl
  | g :: r, h => by
    have h' : (g.D.canLay0 && r.all fun g => g.D.canLay0) = true := h
    rw [Bool.and_eq_true] at h'
    show (g.D.canLay0 && PyData.canLayAll0 (r.map Sg.D)) = true
    rw [h'.1, lay_all (gs := r) h'.2]
    rfl
theorem deep_all : ∀ gs : List Sg, PyData.depthAll (gs.map Sg.D) ≤ 10
  | [] => Nat.zero_le _
  | g :: r => by
    have d : g.D.depth ≤ 10 := by cases g <;> simp [Sg.D, PyData.depth, PyData.depthAll]
    have := deep_all r
    simp only [List.map_cons, PyData.depthAll]
    exact Nat.max_le.mpr ⟨d, this⟩
theorem row_lay {gs : List Sg} (h : layS gs = true) : (rowD gs).canLay0 = true := lay_all h
theorem row_shaped {gs : List Sg} (h : layS gs = true) : SeqAt.shaped (rowD gs) = true := by
  show ((rowD gs).canLay0 && decide ((rowD gs).depth ≤ 64)) = true
  rw [row_lay h, Bool.true_and]
  refine decide_eq_true ?_
  have := deep_all gs
  show PyData.depthAll (gs.map Sg.D) + 1 ≤ 64
  omega
theorem row_eqv {gs : List Sg} (h : layS gs = true) : (!PyData.eqv (rowD gs) (rowD gs)) = false := by
  rw [PySem.SeqAt.eqv_refl _ (row_lay h)]
  rfl
theorem rows_mem {ss : List Sg} : ∀ {n : Nat} {gs : List Sg}, gs ∈ rows ss n → gs.length = n ∧ ∀ g ∈ gs, g ∈ ss
  | 0, gs, h => by
    have : gs = [] := by simpa [rows] using h
    subst this
    exact ⟨rfl, fun _ h => nomatch h⟩
  | n + 1, gs, h => by
    have h' : gs ∈ (rows ss n).flatMap fun g => ss.map fun s => g ++ [s] := h
    obtain ⟨x, hx, hm⟩ := List.mem_flatMap.mp h'
    obtain ⟨s, hs, rfl⟩ := List.mem_map.mp hm
    obtain ⟨e, r⟩ := rows_mem hx
    refine ⟨by rw [List.length_append, e]; rfl, fun g hg => ?_⟩
    rcases List.mem_append.mp hg with q | q
    · exact r g q
    · have : g = s := by simpa using q
      rw [this]
      exact hs
theorem rows_lay {ss : List Sg} {n : Nat} {gs : List Sg} (h : layS ss = true) (hg : gs ∈ rows ss n) : layS gs = true :=
  List.all_eq_true.mpr fun g q => List.all_eq_true.mp h g ((rows_mem hg).2 g q)
theorem lay_good : LS.all (fun L => XS.all fun T => layS (sgsOf L T)) = true := by decide +kernel
/-! ### weaker readings of rules -/
section
variable {X : Cx} {e : Expr}
theorem pe_weak {t t' : TE} (h : PE X e t) (i : ∀ σ H Q, t' σ H Q → t σ H Q) : PE X e t' := ⟨fun pins s σ H Q I q => h.run pins s σ H Q I (i σ H Q q)⟩
theorem pt_weak {t t' : TT} (h : PT X e t) (i : ∀ σ H Q, t' σ H Q → t σ H Q) : PT X e t' := ⟨fun pins s σ H Q I q => h.run pins s σ H Q I (i σ H Q q)⟩
end
def tMost (K : PySem.W.Frag) : TE := fun σ H Q => ∃ (sg : Addr) (ws : List V), σ[4]? = some (some (.ref sg)) ∧ SqL K H sg ws ∧ Q (.int ((if ws.length < 4 then 5 else 4 : Nat) : Nat)) H
/-- the levels at l are those of gs; level is the last -/
def LevAt (K : PySem.W.Frag) (σ : L2.St) (H : Hp) (gs : List Sg) : Prop := ∃ (l : Addr) (ns : List Int), σ[12]? = some (some (.ref l)) ∧ σ[13]? = some (some (.int (pre gs))) ∧ SqL K H l (ns.map V.int) ∧ Lvs gs gs.length ns
def tSame (K : PySem.W.Frag) : TE := fun σ H Q => ∃ gs, LevAt K σ H gs ∧ Q (.bl (isEnd 0 gs)) H
def tEnd (K : PySem.W.Frag) : TT := fun σ H Q => ∃ gs, LevAt K σ H gs ∧ Q (isEnd 0 gs) H
def tGood (K : PySem.W.Frag) (P : Addr) : TT := fun σ H Q => GxR.TabG H P ∧ ∃ (gs : List Sg) (p : Addr) (xs : List V), LevAt K σ H gs ∧ σ[11]? = some (some (.ref p)) ∧ RowAt K H p xs gs ∧ layS gs = true ∧ gs.length ≤ 4 ∧ ∀ H', Sm P H H' → Q false H'
theorem LevAt.min {gs : List Sg} {ns : List Int} (h : Lvs gs gs.length ns) {m : Int} (h1 : m ∈ ns) (h2 : ∀ y ∈ ns, m ≤ y) : isEnd 0 gs = (decide (V.int m = V.int 0) && decide (V.int (pre gs) = V.int 0)) := by
  by_cases z : m = 0
  · subst z
    obtain ⟨_, _, e⟩ := min_zero h h2
    rw [e, decide_eq_true (rfl : V.int 0 = V.int 0), Bool.true_and]
    by_cases q : pre gs = 0
    · rw [decide_eq_true q, decide_eq_true (congrArg V.int q)]
    · rw [decide_eq_false q, decide_eq_false (fun y => q (V.int.inj y))]
  · rw [min_else h h1 h2 z, decide_eq_false (fun y => z (V.int.inj y))]
    rfl
section
variable {K : PySem.W.Frag} {P : Addr} {H : Hp}
theorem rep_cl {d c : Addr} {m : Int} {Q : VK} (t : GxR.TabG H P) (hd : SqT K H d [.ref c]) (h0 : 0 ≤ m) (h1 : m ≤ 1000) (k : ∀ z H2, Sm P H H2 → SqT K H2 z (List.replicate m.toNat (.ref c)) → Q (.ref z) H2) : SoM.rRepS K (.ref d) (.int m) H Q := by
  have e : ∀ n : Nat, (List.replicate n [V.ref c]).flatten = List.replicate n (V.ref c) := by
    intro n
    induction n with
    | zero => rfl
    | succ n ih => rw [List.replicate_succ, List.flatten_cons, ih]; rfl
  refine ⟨d, m, [.ref c], rfl, rfl, hd, by simp, h0, h1, (by show 1 ≤ 1000; decide), fun q => ?_, fun _ p hp => ?_⟩
  · refine k d H (Sm.refl t) ?_
    rw [q]
    exact hd
  · refine k p _ (Sm.new t hp) ?_
    rw [← e]
    exact .inl (.inl upd_same)
theorem cl_paired {c : Addr} (hc : SqT K H c [.str "close"]) : ∀ n : Nat, Paired (SgV K H) (List.replicate n (V.ref c)) (List.replicate n Sg.cl)
  | 0 => .nil
  | n + 1 => .cons ⟨c, rfl, hc⟩ (cl_paired hc n)
theorem cl_ok : ∀ n : Nat, (List.replicate n Sg.cl).all Sg.ok = true
  | 0 => rfl
  | n + 1 => cl_ok n
theorem cat_row {p z c : Addr} {n : Nat} {xs : List V} {gs : List Sg} {Q : VK} (t : GxR.TabG H P) (hR : RowAt K H p xs gs) (hz : SqT K H z (List.replicate n (.ref c))) (hc : SqT K H c [.str "close"]) (h1 : gs.length ≤ 4) (h2 : n ≤ 4)
    (k : ∀ z2 H2 ys, Sm P H H2 → RowAt K H2 z2 ys (gs ++ List.replicate n .cl) → Q (.ref z2) H2) : rCatA K (.ref p) (.ref z) H Q := by
  have lx : xs.length = gs.length := Paired.length hR.2.1
  have mk : ∀ z2 H2, Sm P H H2 → SqT K H2 z2 (xs ++ List.replicate n (V.ref c)) → Q (.ref z2) H2 := fun z2 H2 s h => k z2 H2 _ s ⟨h, paired_append (sgs_mono t s hR.2.1) (cl_paired (s.tup t hc) n), by rw [List.all_append, hR.2.2.1, cl_ok]; rfl, by rw [List.length_append, List.length_replicate]; omega⟩
  refine ⟨p, z, xs, _, rfl, rfl, hR.1, hz, ?_, fun e => ?_, fun _ e => ?_, fun _ _ q hq => ?_⟩
  · rw [List.length_replicate]
    exact Nat.le_trans (by omega : xs.length + n ≤ 8) (by decide)
  · refine mk z H (Sm.refl t) ?_
    rw [e]
    exact hz
  · refine mk p H (Sm.refl t) ?_
    rw [e, List.append_nil]
    exact hR.1
  · exact mk q _ (Sm.new t hq) (.inl (.inl upd_same))
end
end K6

set_option maxRecDepth 100000
set_option maxHeartbeats 4000000
namespace K6
open PySem PySem.Spec PyProof.Rows L2 So
theorem end_pre {gs : List Sg} (h : isEnd 0 gs = true) : pre gs = 0 := by
  by_cases al : ∀ k, k ≤ gs.length → 0 ≤ 0 + pre (gs.take k)
  · have e := lev_up gs 0 0 al
    have p := al gs.length (Nat.le_refl _)
    rw [List.take_length] at p
    unfold isEnd at h
    rw [e] at h
    have h' : (!decide (0 + pre gs > 0)) = true := h
    by_cases q : 0 + pre gs > 0
    · rw [decide_eq_true q] at h'
      cases h'
    · omega
  · obtain ⟨k, hk⟩ := Classical.not_forall.mp al
    obtain ⟨h1, h2⟩ := Classical.not_imp.mp hk
    obtain ⟨j, e⟩ := lev_down gs 0 0 (Int.le_refl _) ⟨k, h1, by omega⟩
    unfold isEnd at h
    rw [e] at h
    cases h
theorem Lvs.pos {gs : List Sg} {n : Nat} {ns : List Int} (h : Lvs gs n ns) : 0 < ns.length := by rw [h.1]; omega
section
variable {gs : List Sg} {ns : List Int} {m : Int} {H : Hp}
theorem same1 {Q : VK} (lv : Lvs gs gs.length ns) (h1 : m ∈ ns) (h2 : ∀ y ∈ ns, m ≤ y) (z : decide (V.int m = V.int 0) = true) (q : Q (.bl (isEnd 0 gs)) H) : Q (.bl (decide (V.int (pre gs) = V.int 0))) H := by
  rw [LevAt.min lv h1 h2, z, Bool.true_and] at q
  exact q
theorem same2 {Q : VK} (lv : Lvs gs gs.length ns) (h1 : m ∈ ns) (h2 : ∀ y ∈ ns, m ≤ y) (z : ¬ decide (V.int m = V.int 0) = true) (q : Q (.bl (isEnd 0 gs)) H) : Q (.bl false) H := by
  have z' : decide (V.int m = V.int 0) = false := by simpa using z
  rw [LevAt.min lv h1 h2, z', Bool.false_and] at q
  exact q
theorem end1 {Q : Bool → Hp → Prop} (lv : Lvs gs gs.length ns) (h1 : m ∈ ns) (h2 : ∀ y ∈ ns, m ≤ y) (z : decide (V.int (pre gs) = V.int 0) = true) (q : Q (isEnd 0 gs) H) : Q (decide (V.int m = V.int 0)) H := by
  rw [LevAt.min lv h1 h2, z, Bool.and_true] at q
  exact q
theorem end2 {Q : Bool → Hp → Prop} (z : ¬ decide (V.int (pre gs) = V.int 0) = true) (q : Q (isEnd 0 gs) H) : Q false H := by
  cases e : isEnd 0 gs with
  | true => exact absurd (decide_eq_true (congrArg V.int (end_pre e))) z
  | false =>
    rw [e] at q
    exact q
end
/-! ### what stands through the law -/
structure Bs (K : PySem.W.Frag) (P : Addr) (H H' : Hp) (b la tx sg : Addr) (L X : List Str) (ws : List V) : Prop where
  sm : Sm P H H'
  b0 : H b = none
  bP : b ≠ P
  box : Box H' b
  hl : H' la = some (.lst (L.map V.str))
  ht : H' tx = some (.lst (X.map V.str))
  hs : H' sg = some (.lst ws)
  nl : la ≠ b
  nt : tx ≠ b
  ns : sg ≠ b
  pr : Paired (SgV K H') ws (sgsOf L X)
theorem sg_tp {K : PySem.W.Frag} {H H' : Hp} (s : Tp H H') {xs : List V} {gs : List Sg} (h : Paired (SgV K H) xs gs) : Paired (SgV K H') xs gs := paired_mono (fun _ _ ⟨q, e, h⟩ => ⟨q, e, s.sq h⟩) h
theorem Tp.ext {H : Hp} {p : Addr} {φ : Heap → Prop} {o : HO} (h : H p = some (.ext φ)) : Tp H (upd H p o) := fun b xs r => by
  rcases r with r | ⟨u, r⟩
  · exact .inl (by rw [upd_ne (ne_of r h (fun q => nomatch q))]; exact r)
  · exact .inr ⟨u, by rw [upd_ne (ne_of r h (fun q => nomatch q))]; exact r⟩
section
variable {K : PySem.W.Frag} {P : Addr} {H H1 H2 : Hp} {b la tx sg : Addr} {L X : List Str} {ws : List V}
theorem Box.keep (t : GxR.TabG H P) (s : Sm P H H1) (h : Box H b) : Box H1 b := by
  obtain ⟨g, z, e, r⟩ := h
  exact ⟨g, z, s.atL t e, r⟩
theorem Bs.step (B : Bs K P H H1 b la tx sg L X ws) (s : Sm P H1 H2) : Bs K P H H2 b la tx sg L X ws :=
  ⟨B.sm.trans s, B.b0, B.bP, B.box.keep B.sm.2 s, s.atL B.sm.2 B.hl, s.atL B.sm.2 B.ht, s.atL B.sm.2 B.hs, B.nl, B.nt, B.ns, sgs_mono B.sm.2 s B.pr⟩
theorem Bs.draw (B : Bs K P H H1 b la tx sg L X ws) {g z : Int} (h1 : 0 ≤ g) (h2 : 0 ≤ z) (h3 : z ≤ 2147483563) : Bs K P H (upd H1 b (.lst [.int g, .int z])) b la tx sg L X ws := by
  obtain ⟨g0, z0, e, _⟩ := B.box
  exact ⟨B.sm.mut B.b0 B.bP, B.b0, B.bP, box_of h1 h2 h3, by rw [upd_ne B.nl]; exact B.hl, by rw [upd_ne B.nt]; exact B.ht, by rw [upd_ne B.ns]; exact B.hs, B.nl, B.nt, B.ns, sg_tp (Tp.lst e) B.pr⟩
theorem Bs.write (B : Bs K P H H1 b la tx sg L X ws) {d : Addr} {φ : Heap → Prop} {o : HO} (h : H1 d = some (.ext φ)) (h0 : H d = none) (hP : d ≠ P) : Bs K P H (upd H1 d o) b la tx sg L X ws := by
  obtain ⟨g0, z0, e, r⟩ := B.box
  have no : ∀ {a : Addr} {ys : List V}, H1 a = some (.lst ys) → upd H1 d o a = some (.lst ys) := fun q => by
    rw [upd_ne (ne_of q h (fun z => nomatch z))]
    exact q
  exact ⟨B.sm.mut h0 hP, B.b0, B.bP, ⟨g0, z0, no e, r⟩, no B.hl, no B.ht, no B.hs, B.nl, B.nt, B.ns, sg_tp (Tp.ext h) B.pr⟩
end
/-! ### the documents' dict stays -/
section
variable {Pg : Program} {w : World} {K : PySem.W.Frag} {P : Addr} {H H1 : Hp} {d : Addr} {l : List De}
theorem KeyAt.tp {b : Addr} {ds : List Nd} (s : Tp H H1) (h : KeyAt K H b ds) : KeyAt K H1 b ds := by
  obtain ⟨ys, h1, h2, h3⟩ := h
  exact ⟨ys, s.sq h1, nds_tp s _ _ h2, h3⟩
theorem DocsAt.keep (t : GxR.TabG H P) (s : Sm P H H1) (h : DocsAt Pg w K H d l) : DocsAt Pg w K H1 d l :=
  ⟨s.1 _ _ (tab_tup t h.1 (fun _ q => nomatch q)) h.1, fun e he => KeyAt.tp (Tp.sm t s) (h.2 e he)⟩
theorem DocsAt.upd {b : Addr} {ys zs : List V} (h : DocsAt Pg w K H d l) (hb : H b = some (.lst ys)) : DocsAt Pg w K (upd H b (.lst zs)) d l :=
  ⟨by rw [upd_ne (ne_of h.1 hb (fun q => nomatch q))]; exact h.1, fun e he => KeyAt.tp (Tp.lst hb) (h.2 e he)⟩
theorem DocsAt.put {b r : Addr} {ds : List Nd} (h : DocsAt Pg w K H d l) (hk : KeyAt K H b ds) : DocsAt Pg w K (L2.upd H d (dnO Pg w d ((l ++ [(ds, b, r)]).map ent))) d (l ++ [(ds, b, r)]) :=
  ⟨upd_same, fun e he => by
    have tp : Tp H (L2.upd H d (dnO Pg w d ((l ++ [(ds, b, r)]).map ent))) := Tp.ext h.1
    rcases List.mem_append.mp he with q | q
    · exact KeyAt.tp tp (h.2 e q)
    · have : e = (ds, b, r) := by simpa using q
      subst this
      exact KeyAt.tp tp hk⟩
end
/-! ### the lists that are picked of -/
theorem picked {P : Addr} {H1 : Hp} {b l1 l2 l3 lo : Addr} {xs ys zs : List Str} (t : GxR.TabG H1 P) (hb : Box H1 b) (h1 : H1 l1 = none) (h2 : upd H1 l1 (.lst (xs.map V.str)) l2 = none) (h3 : upd (upd H1 l1 (.lst (xs.map V.str))) l2 (.lst (ys.map V.str)) l3 = none)
    (h4 : upd (upd (upd H1 l1 (.lst (xs.map V.str))) l2 (.lst (ys.map V.str))) l3 (.lst (zs.map V.str)) lo = none) :
    Sm P H1 (upd (upd (upd (upd H1 l1 (.lst (xs.map V.str))) l2 (.lst (ys.map V.str))) l3 (.lst (zs.map V.str))) lo (.lst [.ref l1, .ref l2, .ref l3])) ∧
    Box (upd (upd (upd (upd H1 l1 (.lst (xs.map V.str))) l2 (.lst (ys.map V.str))) l3 (.lst (zs.map V.str))) lo (.lst [.ref l1, .ref l2, .ref l3])) b ∧ lo ≠ b ∧
    ∀ (j : Nat) (v : V), [V.ref l1, V.ref l2, V.ref l3][j]? = some v → ∃ la L, v = .ref la ∧ L ∈ [xs, ys, zs] ∧ la ≠ b ∧ upd (upd (upd (upd H1 l1 (.lst (xs.map V.str))) l2 (.lst (ys.map V.str))) l3 (.lst (zs.map V.str))) lo (.lst [.ref l1, .ref l2, .ref l3]) la = some (.lst (L.map V.str)) := by
  have s1 : Sm P H1 (upd H1 l1 (.lst (xs.map V.str))) := Sm.new t h1
  have s2 : Sm P H1 _ := s1.trans (Sm.new (o := .lst (ys.map V.str)) s1.2 h2)
  have s3 : Sm P H1 _ := s2.trans (Sm.new (o := .lst (zs.map V.str)) s2.2 h3)
  have s4 : Sm P H1 _ := s3.trans (Sm.new (o := .lst [.ref l1, .ref l2, .ref l3]) s3.2 h4)
  obtain ⟨g, z, e, _⟩ := _root_.id hb
  have n1 : l1 ≠ b := (ne_of_none e h1).symm
  have n2 : l2 ≠ b := (ne_of_none (s1.atL t e) h2).symm
  have n3 : l3 ≠ b := (ne_of_none (s2.atL t e) h3).symm
  have n4 : lo ≠ b := (ne_of_none (s3.atL t e) h4).symm
  have a12 : l1 ≠ l2 := ne_of_none upd_same h2
  have a13 : l1 ≠ l3 := ne_of_none (by rw [upd_ne a12]; exact upd_same) h3
  have a23 : l2 ≠ l3 := ne_of_none upd_same h3
  have a14 : l1 ≠ lo := ne_of_none (by rw [upd_ne a13, upd_ne a12]; exact upd_same) h4
  have a24 : l2 ≠ lo := ne_of_none (by rw [upd_ne a23]; exact upd_same) h4
  have a34 : l3 ≠ lo := ne_of_none upd_same h4
  refine ⟨s4, hb.keep t s4, n4, fun j v hv => ?_⟩
  match j, hv with
  | 0, hv =>
    cases hv
    exact ⟨l1, xs, rfl, by simp, n1, by rw [upd_ne a14, upd_ne a13, upd_ne a12, upd_same]⟩
  | 1, hv =>
    cases hv
    exact ⟨l2, ys, rfl, by simp, n2, by rw [upd_ne a24, upd_ne a23, upd_same]⟩
  | 2, hv =>
    cases hv
    exact ⟨l3, zs, rfl, by simp, n3, by rw [upd_ne a34, upd_same]⟩
  | j + 3, hv => simp at hv
theorem pick_sp {P : Addr} {H H1 : Hp} {b l1 l2 l3 lo : Addr} {xs ys zs : List Str} {Q : VK} {E : XK} (s0 : Sm P H H1) (b0 : H b = none) (bP : b ≠ P) (hb : Box H1 b) (h1 : H1 l1 = none) (h2 : upd H1 l1 (.lst (xs.map V.str)) l2 = none) (h3 : upd (upd H1 l1 (.lst (xs.map V.str))) l2 (.lst (ys.map V.str)) l3 = none)
    (h4 : upd (upd (upd H1 l1 (.lst (xs.map V.str))) l2 (.lst (ys.map V.str))) l3 (.lst (zs.map V.str)) lo = none)
    (k : ∀ la L H2, Sm P H H2 → Box H2 b → L ∈ [xs, ys, zs] → la ≠ b → H2 la = some (.lst (L.map V.str)) → (∀ c vs, c ≠ b → H1 c = some (.lst vs) → H2 c = some (.lst vs)) → Q (.ref la) H2) :
    spPck [.ref b, .ref lo] (upd (upd (upd (upd H1 l1 (.lst (xs.map V.str))) l2 (.lst (ys.map V.str))) l3 (.lst (zs.map V.str))) lo (.lst [.ref l1, .ref l2, .ref l3])) Q E := by
  obtain ⟨s2, hb2, nlo, pk⟩ := picked s0.2 hb h1 h2 h3 h4
  refine ⟨b, lo, _, rfl, hb2, upd_same, nlo, (by show 0 < 3; decide), (by show 3 < 1000; decide), fun j v hv g z g0 z0 z1 => ?_⟩
  obtain ⟨la, L, rfl, hL, nla, hla⟩ := pk j v hv
  refine k la L _ ((s0.trans s2).mut b0 bP) (box_of g0 z0 z1) hL nla (by rw [upd_ne nla]; exact hla) fun c vs nc e => ?_
  rw [upd_ne nc]
  exact s2.atL s0.2 e
structure Good (L X : List Str) : Prop where
  ok : (sgsOf L X).all Sg.ok = true
  few : (sgsOf L X).length ≤ 5
  l2 : L.length ≤ 2
  x2 : X.length ≤ 2
  nd : (sgsOf L X).Nodup
  lay : layS (sgsOf L X) = true
  at' : ∀ n, n < mostOf L X → ((cnt 0 (rows (sgsOf L X) n) : Nat) : Int) = ways (L.length : Nat) (X.length : Nat) n 0 ∧ ∀ a : Int, 0 ≤ a → a < 3 → ((cnt a (rows (sgsOf L X) n) : Nat) : Int) = ways (L.length : Nat) (X.length : Nat) n a
theorem good_of {L X : List Str} (h1 : L ∈ LS) (h2 : X ∈ XS) : Good L X := by
  have g := List.all_eq_true.mp (List.all_eq_true.mp all_good L h1) X h2
  have y := List.all_eq_true.mp (List.all_eq_true.mp lay_good L h1) X h2
  unfold good at g
  simp only [Bool.and_eq_true, decide_eq_true_eq] at g
  obtain ⟨⟨⟨⟨⟨g1, g2⟩, g3⟩, g4⟩, g5⟩, g6⟩ := g
  refine ⟨g1, g2, g3, g4, g5, y, fun n hn => ?_⟩
  have q := List.all_eq_true.mp g6 n (List.mem_range.mpr hn)
  unfold goodAt at q
  rw [Bool.and_eq_true] at q
  refine ⟨of_decide_eq_true q.1, fun a a0 a3 => ?_⟩
  have r := List.all_eq_true.mp q.2
  have m : a ∈ ([0, 1, 2] : List Int) := by
    have : a = 0 ∨ a = 1 ∨ a = 2 := by omega
    rcases this with z | z | z <;> rw [z] <;> simp
  exact of_decide_eq_true (r a m)
end K6

set_option maxRecDepth 100000
set_option maxHeartbeats 8000000
namespace K6
open PySem PySem.Spec PyProof.Rows L2 So
section
variable {Pg : Program} {w : World} {K : PySem.W.Frag} {mg : Str → Option Value} {base : Heap} {P : Addr}
abbrev sLaw : Stmt := top 39
abbrev nLaw : List Str := ["script", "box", "labels", "texts", "signs", "most", "many", "streams", "endings", "documents", "ahead", "row", "levels", "level", "sign", "document", "kinds", "label", "text"]
theorem scLaw : FnScope nLaw ["script"] (defScope sLaw) := ⟨rfl, rfl, rfl, by decide +kernel, rfl, by decide +kernel, by decide +kernel⟩
def spLaw (K : PySem.W.Frag) (P : Addr) : Sp := fun vs H Q _ => GxR.TabG H P ∧ ∃ (a : Addr) (ns : List Int), vs = [.ref a] ∧ SqL K H a (ns.map V.int) ∧ ns.length ≤ 63 ∧ ∀ H', Q (.bl true) H'
theorem most1 {n : Nat} {H : Hp} {Q : VK} (z : decide ((n : Int) < 4) = true) (q : Q (.int ((if n < 4 then 5 else 4 : Nat) : Nat)) H) : Q (.int 5) H := by
  have := of_decide_eq_true z
  rw [if_pos (by omega)] at q
  exact q
theorem most2 {n : Nat} {H : Hp} {Q : VK} (z : ¬ decide ((n : Int) < 4) = true) (q : Q (.int ((if n < 4 then 5 else 4 : Nat) : Nat)) H) : Q (.int 4) H := by
  have : ¬ (n : Int) < 4 := fun y => z (decide_eq_true y)
  rw [if_neg (by omega)] at q
  exact q
theorem goodF {A B : Prop} {b : Bool} (z : ¬ b = true) (h : A) : A := h
theorem int_ne_self (i : Int) : (!decide (V.int i = V.int i)) = false := by rw [decide_eq_true rfl]; rfl
theorem map_at {α : Type} {f : α → V} {l : List α} {i : Nat} {x : V} (h : (l.map f)[i]? = some x) : ∃ y, l[i]? = some y ∧ x = f y := by
  rw [List.getElem?_map] at h
  cases e : l[i]? with
  | none =>
    rw [e] at h
    cases h
  | some y =>
    rw [e] at h
    exact ⟨y, rfl, (Option.some.inj h).symm⟩
theorem ok_law {f fB fP fT fR fW fI fE fC fD fO fS C : Addr} {fd fdB fdP fdT fdR fdW fdI fdE fdC fdD fdO fdS : FuncData} (F : Fun K "law" "law" sLaw f fd) (T : Tx K mg)
    (B : Df K mg "_law_box" sBox ["script", "k"] fB fdB) (GB : FnOk Pg w K mg base CX0 1 fB fdB ["script", "k"] (spBox K P))
    (Pk : Df K mg "_law_pick" sPck ["box", "some"] fP fdP) (GP : FnOk Pg w K mg base CX0 2 fP fdP ["box", "some"] spPck)
    (Tk : Df K mg "_law_take" sTak ["box", "many"] fT fdT) (GT : FnOk Pg w K mg base CX0 1 fT fdT ["box", "many"] spTak)
    (Rw : Df K mg "_law_rows" sRws ["signs", "many"] fR fdR) (GR : FnOk Pg w K mg base CX0 1 fR fdR ["signs", "many"] (spRws K P))
    (Wy : Df K mg "_law_ways" sWys ["kinds", "many", "ahead"] fW fdW) (GW : FnOk Pg w K mg base CX0 1 fW fdW ["kinds", "many", "ahead"] (spWys K P))
    (Is : Df K mg "is_stream" sIst ["value"] fI fdI) (GI : FnOk Pg w K mg base CX0 7 fI fdI ["value"] (spIst K P))
    (Ie : Df K mg "is_ending" sIen ["depth", "value"] fE fdE) (GE : FnOk Pg w K mg base CX0 7 fE fdE ["depth", "value"] (spIen K P))
    (Cp : Df K mg "check_prefix" sCpf ["value"] fC fdC) (GC : FnOk Pg w K mg base (L2.CX Pg w) 5 fC fdC ["value"] (spCpf K P C))
    (Dp' : Df K mg "depth" sDep ["prefix"] fD fdD) (GD : FnOk Pg w K mg base (L2.CX Pg w) 5 fD fdD ["prefix"] (spDep K P C))
    (Do : Df K mg "document_of" sDoc ["stream"] fO fdO) (GO : FnOk Pg w K mg base (L2.CX Pg w) 7 fO fdO ["stream"] (spDoc K P))
    (Si : Df K mg "signs_of" sSig ["document"] fS fdS) (GS : FnOk Pg w K mg base CX0 4 fS fdS ["document"] (spSig K P)) :
    FnOk Pg w K mg base CX0 8 f fd ["script"] (spLaw K P) := by
  refine F.ok scLaw (fun vs H Q E h => ?_) (fun cdv A outer s H vs Q E hr h => ?_)
  · obtain ⟨_, _, _, rfl, _⟩ := h
    rfl
  · obtain ⟨t, a, ns, rfl, hS, hlen, kont⟩ := h
    have hu := hr.units
    have hu9 : (A.deeper (envOfC "law" (defScope sLaw) s.heap.objs.size f cdv)).units + 9 < cLine := by omega
    have r1 : Room 1 _ := hr.mono (by decide)
    have r2 : Room 2 _ := hr.mono (by decide)
    have r4 : Room 4 _ := hr.mono (by decide)
    have r5 : Room 5 _ := hr.mono (by decide)
    refine ⟨_, (pss_cons (ps_set (i := 1) scLaw.nd rfl (Or.inl rfl) (pe_call GB r1 (by rfl) B.g B.F.kp B.b .nil pass0 (pa_cons (pv 0) (pa_cons pe_int pa_nil))))
      (pss_cons (ps_par (i := 2) (j := 3) rfl scLaw.nd rfl rfl (by decide) rfl rfl (pa_cons (pe_call GP r2 (by rfl) Pk.g Pk.F.kp Pk.b .nil pass0 (pa_cons (pv 1) (pa_cons (pe_lst (pa_cons (pe_lst (pa_cons pe_str pa_nil)) (pa_cons (pe_lst (pa_cons pe_str (pa_cons pe_str pa_nil))) (pa_cons (pe_lst (pa_cons pe_str pa_nil)) pa_nil)))) pa_nil))) (pa_cons (pe_call GP r2 (by rfl) Pk.g Pk.F.kp Pk.b .nil pass0 (pa_cons (pv 1) (pa_cons (pe_lst (pa_cons (pe_lst (pa_cons pe_str pa_nil)) (pa_cons (pe_lst pa_nil) (pa_cons (pe_lst (pa_cons pe_str (pa_cons pe_str pa_nil))) pa_nil)))) pa_nil))) pa_nil)) (by rfl))
      (pss_cons (ps_set (i := 4) scLaw.nd rfl (Or.inl rfl) (pe_op op_cat (pe_op op_cat (pe_lc (own := [("label", 17)]) (g := gName 17) (tt := tYes) rfl scLaw.nd (pi_list (pv 2)) (blkOk_by (N := nLaw) (sc := defScope sLaw) (by decide +kernel)) (fun _ _ _ _ _ => pg_name (i := 17) scLaw.nd rfl (Or.inl rfl)) (fun _ _ _ _ _ => pts_nil) (fun _ _ _ _ _ => (pe_tup (pa_cons pe_str (pa_cons (pv 17) pa_nil))))) (pe_lc (own := [("text", 18)]) (g := gName 18) (tt := tYes) rfl scLaw.nd (pi_list (pv 3)) (blkOk_by (N := nLaw) (sc := defScope sLaw) (by decide +kernel)) (fun _ _ _ _ _ => pg_name (i := 18) scLaw.nd rfl (Or.inl rfl)) (fun _ _ _ _ _ => pts_nil) (fun _ _ _ _ _ => (pe_tup (pa_cons pe_str (pa_cons (pv 18) pa_nil)))))) (pe_lst (pa_cons (pe_tup (pa_cons pe_str pa_nil)) pa_nil))))
      (pss_cons (ps_set (i := 5) scLaw.nd rfl (Or.inl rfl) (pe_weak (t' := tMost K) (pe_ifExp (pt_cmpR op_lt (pe_callB call_len_seq (by rfl) T.len (by decide +kernel) (pa_cons (pv 4) pa_nil)) pe_int (nomark _)) pe_int pe_int) (by rintro σ H Q ⟨sg, ws, e, h, q⟩; exact ⟨_, e, sg, _, rfl, .inl h, _, _, rfl, rfl, _, rfl, ite2 (fun z => most1 z q) (fun z => most2 z q)⟩)))
      (pss_cons (ps_for PassesOwn.never rfl (pi_range1 (by rfl) T.range (pa_cons (pv 5) pa_nil)) (pg_name (i := 6) scLaw.nd rfl (Or.inl rfl)) (pss_cons (ps_par3 (i := 7) (j := 8) (l := 9) rfl scLaw.nd rfl rfl rfl (by decide) (by decide) (by decide) rfl rfl rfl (pa_cons pe_int (pa_cons pe_int (pa_cons pe_dnewN pa_nil))) (by rfl))
      (pss_cons (ps_set (i := 10) scLaw.nd rfl (Or.inl rfl) (pe_call GT r1 (by rfl) Tk.g Tk.F.kp Tk.b .nil pass0 (pa_cons (pv 1) (pa_cons pe_int pa_nil))))
      (pss_cons (ps_for PassesOwn.never rfl (pi_list (pe_call GR r1 (by rfl) Rw.g Rw.F.kp Rw.b .nil pass0 (pa_cons (pv 4) (pa_cons (pv 6) pa_nil)))) (pg_name (i := 11) scLaw.nd rfl (Or.inl rfl)) (pss_cons (ps_par (i := 12) (j := 13) rfl scLaw.nd rfl rfl (by decide) rfl rfl (pa_cons (pe_lst (pa_cons pe_int pa_nil)) (pa_cons pe_int pa_nil)) (by rfl))
      (pss_cons (ps_for PassesOwn.never rfl (pi_tup (pv 11)) (pg_name (i := 14) scLaw.nd rfl (Or.inl rfl)) (pss_cons (ps_set (i := 13) scLaw.nd rfl (Or.inl rfl) (pe_op op_sub (pe_op op_add (pv 13) (pe_callTy call_int1 (by rfl) T.int (by decide +kernel) (pa_cons (pe_cmpR op_eq (pe_ix ix_tup (pv 14) pe_int (fun _ _ => rfl)) pe_str (nomark _)) pa_nil))) (pe_callTy call_int1 (by rfl) T.int (by decide +kernel) (pa_cons (pe_cmpR op_eq (pe_ix ix_tup (pv 14) pe_int (fun _ _ => rfl)) pe_str (nomark _)) pa_nil))))
      (pss_one (ps_expr (pe_bm PySem.F.plainAttrs_list PySem.F.slot_list_append PySem.F.type_list_append mt_append (pv 12) (pa_cons (pv 13) pa_nil))))))
      (pss_cons (ps_if (pt_cmpR op_ne (pe_call GI hr (by rfl) Is.g Is.F.kp Is.b .nil pass0 (pa_cons (pv 11) pa_nil)) (pe_weak (t' := tSame K) (pe_and (pe_cmpR op_eq (pe_callB (cr_min rfl) (by rfl) T.min (by decide +kernel) (pa_cons (pv 12) pa_nil)) pe_int (nomark _)) (pe_one (pe_cmpR op_eq (pv 13) pe_int (nomark _)))) (by rintro σ H Q ⟨gs, ⟨l, ns, e1, e2, e3, lv⟩, q⟩; exact ⟨_, e1, l, ns, rfl, e3, lv.pos, fun m m1 m2 => ⟨rfl, _, rfl, ite2 (fun z => ⟨_, e2, rfl, same1 lv m1 m2 z q⟩) (fun z => same2 lv m1 m2 z q)⟩⟩)) (nomark _)) pss_never pss_nil)
      (pss_cons (ps_if (pt_weak (t' := tGood K P) (PW.pt (pw_and (pt_cmpR op_eq (pe_callB (cr_min rfl) (by rfl) T.min (by decide +kernel) (pa_cons (pv 12) pa_nil)) pe_int (nomark _)) (pw_and1 (PW.pt (pw_or (pt_cmpR (op_neD hu) (pe_call GC r5 (by rfl) Cp.g Cp.F.kp Cp.b .nil passL (pa_cons (pv 11) pa_nil)) (pv 11) (nomark _)) (pw_or (pt_cmpR op_ne (pe_call GD r5 (by rfl) Dp'.g Dp'.F.kp Dp'.b .nil passL (pa_cons (pv 11) pa_nil)) (pv 13) (nomark _)) (pw_or1 (pt_not (pt_val (pe_call GI hr (by rfl) Is.g Is.F.kp Is.b .nil pass0 (pa_cons (pe_op (show OpR _ _ (rCatA K) from op_catA) (pv 11) (pe_op (show OpR _ _ (SoM.rRepS K) from SoM.op_repS) (pe_tup (pa_cons (pe_tup (pa_cons pe_str pa_nil)) pa_nil)) (pv 13))) pa_nil)))))))))))
        (by
          rintro σ H Q ⟨t, gs, p, xs, ⟨l, ns, e1, e2, e3, lv⟩, e4, hR, hlay, h4, q⟩
          have lx : gs.length ≤ 4 := h4
          refine ⟨_, e1, l, ns, rfl, e3, lv.pos, fun m m1 m2 => ⟨rfl, _, rfl, ite2 (fun z => ?_) (fun z => q _ (Sm.refl t))⟩⟩
          have m0 : m = 0 := V.int.inj (of_decide_eq_true z)
          subst m0
          obtain ⟨hlev, p0, _⟩ := min_zero lv m2
          have ple := pre_le gs
          refine ⟨_, e4, t, p, xs, gs, rfl, hR, ?_⟩
          rw [hlev]
          intro q1 H1 s1 eq1
          have hR1 : RowAt K H1 q1 xs gs := ⟨.inl (.inl eq1), sgs_mono t s1 hR.2.1, hR.2.2⟩
          refine ⟨_, e4, _, _, row_dp hR1, row_dp (hR.mono t s1), row_shaped hlay, row_shaped hlay, false, congrArg V.bl (row_eqv hlay), iteF ?_⟩
          refine ⟨_, e4, s1.2, p, xs, gs, rfl, hR.mono t s1, ?_⟩
          rw [hlev]
          intro H2 s2
          have s12 := s1.trans s2
          refine ⟨_, e2, rfl, false, congrArg V.bl (int_ne_self _), iteF ?_⟩
          refine ⟨_, e4, (by show 1 ≤ sizeLine; decide), fun c hc => ⟨(by show 1 ≤ sizeLine; decide), fun d hd => ⟨_, e2, ?_⟩⟩⟩
          have s3 := s12.trans (Sm.new (o := .tup [.str "close"]) s12.2 hc)
          have s4 := s3.trans (Sm.new (o := .tup [.ref c]) s3.2 hd)
          refine rep_cl s4.2 (.inl (.inl upd_same)) p0 (by omega) fun z H5 s5 hz => ?_
          have s45 := s4.trans s5
          have hcc : SqT K H5 c [.str "close"] := s5.tup s4.2 (.inl (.inl (by rw [upd_ne (ne_of_none upd_same hd)]; exact upd_same)))
          refine cat_row s45.2 (hR.mono t s45) hz hcc h4 (by omega) fun z2 H6 ys s6 hR6 => ?_
          have s456 := s45.trans s6
          refine ⟨s456.2, _, ⟨z2, ys, _, rfl, hR6, rfl⟩, fun v H7 s7 ev => ⟨true, ?_, q _ (s456.trans s7)⟩⟩
          rw [ev, end_closed (by rw [hlev]; congr 1; omega)])) pss_never pss_nil)
      (pss_cons (ps_set (i := 8) scLaw.nd rfl (Or.inl rfl) (pe_op op_add (pv 8) (pe_callTy call_int1 (by rfl) T.int (by decide +kernel) (pa_cons (pe_call GE hr (by rfl) Ie.g Ie.F.kp Ie.b .nil pass0 (pa_cons (pv 10) (pa_cons (pv 11) pa_nil))) pa_nil))))
      (pss_one (ps_if (pt_weak (t' := tEnd K) (PW.pt (pw_and (pt_cmpR op_eq (pv 13) pe_int (nomark _)) (pw_and1 (pt_cmpR op_eq (pe_callB (cr_min rfl) (by rfl) T.min (by decide +kernel) (pa_cons (pv 12) pa_nil)) pe_int (nomark _))))) (by rintro σ H Q ⟨gs, ⟨l, ns, e1, e2, e3, lv⟩, q⟩; exact ⟨_, e2, rfl, _, rfl, ite2 (fun z => ⟨_, e1, l, ns, rfl, e3, lv.pos, fun m m1 m2 => ⟨rfl, _, rfl, end1 lv m1 m2 z q⟩⟩) (fun z => end2 z q)⟩)) (pss_cons (ps_set (i := 7) scLaw.nd rfl (Or.inl rfl) (pe_op op_add (pv 7) pe_int))
      (pss_cons (ps_set (i := 15) scLaw.nd rfl (Or.inl rfl) (pe_call GO hr (by rfl) Do.g Do.F.kp Do.b .nil passL (pa_cons (pv 11) pa_nil)))
      (pss_cons (ps_if (PW.pt (pw_or (pt_cmpR (op_neD hu) (pe_getN hu9 (pv 9) (pv 15) (pv 11) ⟨rfl, rfl, rfl, rfl⟩) (pv 11) (nomark _)) (pw_or1 (pt_cmpR (op_neD hu) (pe_call GS r4 (by rfl) Si.g Si.F.kp Si.b .nil pass0 (pa_cons (pv 15) pa_nil)) (pv 11) (nomark _))))) pss_never pss_nil)
      (pss_one (ps_putN hu9 (pv 9) (pv 15) (pv 11) rfl))))) pss_nil))))))))
      (pss_cons (ps_set (i := 16) scLaw.nd rfl (Or.inl rfl) (pe_lst (pa_cons (pe_callB call_len_seq (by rfl) T.len (by decide +kernel) (pa_cons (pv 2) pa_nil)) (pa_cons (pe_callB call_len_seq (by rfl) T.len (by decide +kernel) (pa_cons (pv 3) pa_nil)) pa_nil))))
      (pss_one (ps_if (pt_cmpR (op_neD hu) (pe_lst (pa_cons (pv 7) (pa_cons (pe_callB call_lenN (by rfl) T.len (by decide +kernel) (pa_cons (pv 9) pa_nil)) (pa_cons (pv 8) pa_nil)))) (pe_op op_cat (pe_op op_rep (pe_lst (pa_cons (pe_call GW r1 (by rfl) Wy.g Wy.F.kp Wy.b .nil pass0 (pa_cons (pv 16) (pa_cons (pv 6) (pa_cons pe_int pa_nil)))) pa_nil)) pe_int) (pe_lst (pa_cons (pe_call GW r1 (by rfl) Wy.g Wy.F.kp Wy.b .nil pass0 (pa_cons (pv 16) (pa_cons (pv 6) (pa_cons (pv 10) pa_nil)))) pa_nil))) (nomark _)) pss_never pss_nil)))))))
      (pss_one (ps_ret pe_bl))))))), ?_⟩
    have one : 1 ≤ sizeLine := by decide
    have two : 2 ≤ sizeLine := by decide
    have three : 3 ≤ sizeLine := by decide
    have small : ∀ {m : Nat}, m ≤ 10000 → m < sizeLine := fun h => Nat.lt_of_le_of_lt h (by decide)
    have nP : ∀ {H' : Hp} {a : Addr}, GxR.TabG H' P → H' a = none → a ≠ P := fun t e z => by
      obtain ⟨ps, q, _⟩ := t
      rw [z, q] at e
      cases e
    -- box = ..
    refine ⟨_, rfl, t, a, ns, 0, rfl, hS, hlen, (by decide), fun b H1 s1 b0 bP hb => ?_⟩
    -- labels, texts = ..
    refine ⟨_, rfl, one, fun l1 h1 => ⟨two, fun l2 h2 => ⟨one, fun l3 h3 => ⟨three, fun lo h4 => ?_⟩⟩⟩⟩
    refine pick_sp (E := E0) (xs := ["a"]) (ys := ["a", "b"]) (zs := ["ab"]) s1 b0 bP hb h1 h2 h3 h4 fun la L H2 s2 hb2 hL nla hla _ => ?_
    refine ⟨_, rfl, one, fun k1 e1 => ⟨Nat.zero_le _, fun k2 e2 => ⟨two, fun k3 e3 => ⟨three, fun ko e4 => ?_⟩⟩⟩⟩
    refine pick_sp (E := E0) (xs := ["x"]) (ys := []) (zs := ["", "x"]) s2 b0 bP hb2 e1 e2 e3 e4 fun tx X H5 s5 hb5 hX ntx htx kp => ?_
    have hla5 := kp _ _ nla hla
    have gd : Good L X := good_of hL hX
    refine ⟨_, _, rfl, ?_⟩
    -- signs = ..
    refine ⟨_, rfl, la, rfl, ⟨_, SqL.of hla5⟩, fun D1 hD1 => ?_⟩
    have n1P : D1 ≠ P := nP s5.2 hD1
    refine lc_list (K := K) (a := la) (xs := L.map V.str) (fun c G => ∃ ws, Sm P H5 G ∧ G D1 = some (.lst ws) ∧ ws.length = c ∧ Paired (SgV K G) ws ((L.take c).map Sg.op)) ⟨[], Sm.new s5.2 hD1, upd_same, rfl, .nil⟩
      (fun c G _ ⟨_, q, _⟩ => SqL.of (q.atL s5.2 hla5)) ?_ ?_
    · rintro c x G hx ⟨ws, q1, q2, q3, q4⟩
      obtain ⟨l, hl, rfl⟩ := map_at hx
      have hc : c < L.length := (List.getElem?_eq_some_iff.mp hl).1
      have c2 := gd.l2
      refine ⟨rfl, _, rfl, two, fun T1 hT1 => ?_⟩
      have e1 : upd G T1 (.tup [.str "open", .str l]) D1 = some (.lst ws) := by
        rw [upd_ne (ne_of_none q2 hT1)]
        exact q2
      refine ⟨ws, e1, small (by omega), ws ++ [.ref T1], (q1.trans (Sm.new q1.2 hT1)).mut hD1 n1P, upd_same, by rw [List.length_append, q3]; rfl, ?_⟩
      rw [take_snoc hl, List.map_append]
      refine paired_append (sg_tp ((Tp.new hT1).trans (Tp.lst e1)) q4) (.cons ⟨T1, rfl, .inl (.inl ?_)⟩ .nil)
      rw [upd_ne (ne_of_none q2 hT1).symm]
      exact upd_same
    rintro G1 ⟨ws1, q1, q2, q3, q4⟩
    rw [List.length_map] at q3
    rw [List.length_map, List.take_length] at q4
    have sG1 := s5.trans q1
    have htx1 := q1.atL s5.2 htx
    refine ⟨_, rfl, tx, rfl, ⟨_, SqL.of htx1⟩, fun D2 hD2 => ?_⟩
    have n2P : D2 ≠ P := nP q1.2 hD2
    refine lc_list (K := K) (a := tx) (xs := X.map V.str) (fun c G => ∃ ws, Sm P G1 G ∧ G D2 = some (.lst ws) ∧ ws.length = c ∧ Paired (SgV K G) ws ((X.take c).map Sg.tx)) ⟨[], Sm.new q1.2 hD2, upd_same, rfl, .nil⟩
      (fun c G _ ⟨_, q, _⟩ => SqL.of (q.atL q1.2 htx1)) ?_ ?_
    · rintro c x G hx ⟨ws, r1, r2, r3, r4⟩
      obtain ⟨l, hl, rfl⟩ := map_at hx
      have hc : c < X.length := (List.getElem?_eq_some_iff.mp hl).1
      have c2 := gd.x2
      refine ⟨rfl, _, rfl, two, fun T1 hT1 => ?_⟩
      have e1 : upd G T1 (.tup [.str "text", .str l]) D2 = some (.lst ws) := by
        rw [upd_ne (ne_of_none r2 hT1)]
        exact r2
      refine ⟨ws, e1, small (by omega), ws ++ [.ref T1], (r1.trans (Sm.new r1.2 hT1)).mut hD2 n2P, upd_same, by rw [List.length_append, r3]; rfl, ?_⟩
      rw [take_snoc hl, List.map_append]
      refine paired_append (sg_tp ((Tp.new hT1).trans (Tp.lst e1)) r4) (.cons ⟨T1, rfl, .inl (.inl ?_)⟩ .nil)
      rw [upd_ne (ne_of_none r2 hT1).symm]
      exact upd_same
    rintro G2 ⟨ws2, r1, r2, r3, r4⟩
    rw [List.length_map] at r3
    rw [List.length_map, List.take_length] at r4
    have hD1' := r1.atL q1.2 q2
    have k1 := gd.l2
    have k2 := gd.x2
    refine ⟨D1, D2, ws1, ws2, rfl, rfl, hD1', r2, Nat.le_of_lt (small (by omega)), fun p1 hp1 => ?_⟩
    have t1 := r1.trans (Sm.new (o := .lst (ws1 ++ ws2)) r1.2 hp1)
    refine ⟨one, fun c hc => ⟨one, fun D3 hD3 => ?_⟩⟩
    have t2 := t1.trans (Sm.new (o := .tup [.str "close"]) t1.2 hc)
    have t3 := t2.trans (Sm.new (o := .lst [.ref c]) t2.2 hD3)
    have p13 : p1 ≠ D3 := ne_of_none (by rw [upd_ne (ne_of_none upd_same hc)]; exact upd_same) hD3
    refine ⟨p1, D3, ws1 ++ ws2, [.ref c], rfl, rfl, ?_, upd_same, ?_, fun sg hsg => ?_⟩
    · rw [upd_ne p13, upd_ne (ne_of_none upd_same hc)]
      exact upd_same
    · rw [List.length_append]
      exact Nat.le_of_lt (small (by show _ + 1 ≤ 10000; omega))
    have t4 := t3.trans (Sm.new (o := .lst (ws1 ++ ws2 ++ [.ref c])) t3.2 hsg)
    have tc : upd (upd (upd (upd G2 p1 (.lst (ws1 ++ ws2))) c (.tup [.str "close"])) D3 (.lst [.ref c])) sg (.lst (ws1 ++ ws2 ++ [.ref c])) c = some (.tup [.str "close"]) := by
      have n1 : c ≠ D3 := ne_of_none upd_same hD3
      have n2 : c ≠ sg := ne_of_none (by rw [upd_ne n1]; exact upd_same) hsg
      rw [upd_ne n2, upd_ne n1, upd_same]
    have tsg : upd (upd (upd (upd G2 p1 (.lst (ws1 ++ ws2))) c (.tup [.str "close"])) D3 (.lst [.ref c])) sg (.lst (ws1 ++ ws2 ++ [.ref c])) sg = some (.lst (ws1 ++ ws2 ++ [.ref c])) := upd_same
    have b4 : Box (upd (upd (upd G2 p1 (.lst (ws1 ++ ws2))) c (.tup [.str "close"])) D3 (.lst [.ref c])) b := (hb5.keep s5.2 q1).keep q1.2 t3
    have nsg : sg ≠ b := by
      obtain ⟨_, _, e, _⟩ := b4
      exact (ne_of_none e hsg).symm
    have t0 : Sm P G2 _ := (Sm.new (o := .lst (ws1 ++ ws2)) r1.2 hp1).trans ((Sm.new (o := .tup [.str "close"]) t1.2 hc).trans ((Sm.new (o := .lst [.ref c]) t2.2 hD3).trans (Sm.new (o := .lst (ws1 ++ ws2 ++ [.ref c])) t3.2 hsg)))
    have B : Bs K P H (upd (upd (upd (upd G2 p1 (.lst (ws1 ++ ws2))) c (.tup [.str "close"])) D3 (.lst [.ref c])) sg (.lst (ws1 ++ ws2 ++ [.ref c]))) b la tx sg L X (ws1 ++ ws2 ++ [.ref c]) := {
      sm := sG1.trans t4
      b0 := b0
      bP := bP
      box := (hb5.keep s5.2 q1).keep q1.2 t4
      hl := t4.atL q1.2 (q1.atL s5.2 hla5)
      ht := t4.atL q1.2 htx1
      hs := tsg
      nl := nla
      nt := ntx
      ns := nsg
      pr := paired_append (paired_append (sgs_mono q1.2 t4 q4) (sgs_mono r1.2 t0 r4)) (.cons ⟨c, rfl, .inl (.inl tc)⟩ .nil) }
    have lws : (ws1 ++ ws2 ++ [V.ref c]).length = (sgsOf L X).length := Paired.length B.pr
    generalize upd (upd (upd (upd G2 p1 (.lst (ws1 ++ ws2))) c (.tup [.str "close"])) D3 (.lst [.ref c])) sg (.lst (ws1 ++ ws2 ++ [.ref c])) = H6 at B
    clear t0 b4 tsg tc t4 t3 t2 t1
    generalize ws1 ++ ws2 ++ [V.ref c] = ws at B lws
    -- most = ..
    refine ⟨sg, ws, rfl, SqL.of B.hs, ?_⟩
    rw [show (if ws.length < 4 then 5 else 4) = mostOf L X by unfold mostOf; rw [lws]]
    have m5 : mostOf L X ≤ 5 := by
      unfold mostOf
      split <;> omega
    refine ⟨_, rfl, mostOf L X, rfl, by omega, by omega, for_range (lo := 0) (n := mostOf L X) (fun i σ H' => ∃ (v6 v7 v8 v9 v10 v11 v12 v13 v14 v15 v16 : Option V), σ = [some (.ref a), some (.ref b), some (.ref la), some (.ref tx), some (.ref sg), some (.int (mostOf L X : Nat)), v6, v7, v8, v9, v10, v11, v12, v13, v14, v15, v16, none, none] ∧
      Bs K P H H' b la tx sg L X ws) ⟨none, none, none, none, none, none, none, none, none, none, none, rfl, B⟩ ?_ ?_⟩
    rotate_left
    · rintro σ G ⟨v6, v7, v8, v9, v10, v11, v12, v13, v14, v15, v16, rfl, B⟩
      exact kont _
    rintro i σ G hi ⟨v6, v7, v8, v9, v10, v11, v12, v13, v14, v15, v16, rfl, B⟩
    rw [Int.zero_add]
    refine fun D hD => ⟨_, _, _, rfl, ?_⟩
    have s1 : Sm P G (upd G D (dnO Pg w D [])) := Sm.new B.sm.2 hD
    have D0 : H D = none := B.sm.free t hD
    have DP : D ≠ P := nP B.sm.2 hD
    have B1 := B.step s1
    have dk1 : DocsAt Pg w K (upd G D (dnO Pg w D [])) D [] := ⟨upd_same, fun _ h => nomatch h⟩
    obtain ⟨gb, zb, eb, _⟩ := _root_.id B1.box
    refine ⟨_, rfl, b, 3, rfl, B1.box, by decide, by decide, fun r r0 r3 g z g0 z0 z1 => ?_⟩
    have B2 := B1.draw g0 z0 z1
    have dk2 := dk1.upd (zs := [.int g, .int z]) eb
    refine ⟨_, rfl, _, rfl, B2.sm.2, sg, i, ws, sgsOf L X, rfl, SqL.of B2.hs, B2.pr, gd.ok, gd.few, by omega, fun rr ys H3 s3 hr0 hrr hys => ?_⟩
    have B3 := B2.step s3
    have dk3 := dk2.keep B2.sm.2 s3
    clear B1 B2 dk1 dk2 s1
    have RN : (rows (sgsOf L X) i).Nodup := rows_nodup gd.nd i
    have ly : ys.length = (rows (sgsOf L X) i).length := Paired.length hys
    have lR : (rows (sgsOf L X) i).length ≤ 625 := by rw [rows_len]; exact pow5 gd.few (by omega)
    refine ⟨rr, rfl, ⟨_, SqL.of hrr⟩, for_list (K := K) (a := rr) (xs := ys) (fun j σ G' => ∃ (l : List De) (v11 v12 v13 v14 v15 : Option V), σ = [some (.ref a), some (.ref b), some (.ref la), some (.ref tx), some (.ref sg), some (.int (mostOf L X : Nat)), some (.int (i : Nat)),
        some (.int ((cnt 0 ((rows (sgsOf L X) i).take j) : Nat) : Int)), some (.int ((cnt r ((rows (sgsOf L X) i).take j) : Nat) : Int)), some (.ref D), some (.int r), v11, v12, v13, v14, v15, v16, none, none] ∧
        Bs K P H G' b la tx sg L X ws ∧ DocsAt Pg w K G' D l ∧ Kept l ((rows (sgsOf L X) i).take j) ∧ G' rr = some (.lst ys) ∧ Paired (RowN K i G') ys (rows (sgsOf L X) i))
      ⟨[], v11, v12, v13, v14, v15, rfl, B3, dk3, Kept.nil, hrr, hys⟩ (fun j σ G' _ ⟨_, _, _, _, _, _, _, _, _, _, q, _⟩ => SqL.of q) ?_ ?_⟩
    · rintro j y σ G' hy ⟨l, v11, v12, v13, v14, v15, rfl, C0, dk, hK, hrr', hys'⟩
      obtain ⟨gs, hgj, lgs, p, xs, rfl, hrow⟩ := paired_get hys' hy
      have hmem := List.mem_of_getElem? hgj
      have hlay : layS gs = true := rows_lay gd.lay hmem
      have lx : xs.length = gs.length := Paired.length hrow.2.1
      have l4 : gs.length ≤ 4 := by omega
      have tG := C0.sm.2
      refine ⟨one, fun Lv hLv => ⟨_, _, rfl, ?_⟩⟩
      have LP : Lv ≠ P := nP tG hLv
      refine ⟨_, rfl, p, rfl, ⟨_, (Sm.new (o := .lst [.int 0]) tG hLv).tup tG hrow.1⟩, for_tup (xs := xs) (fun c σ G1 => ∃ (ns : List Int) (v14 : Option V), σ = [some (.ref a), some (.ref b), some (.ref la), some (.ref tx), some (.ref sg), some (.int (mostOf L X : Nat)), some (.int (i : Nat)),
        some (.int ((cnt 0 ((rows (sgsOf L X) i).take j) : Nat) : Int)), some (.int ((cnt r ((rows (sgsOf L X) i).take j) : Nat) : Int)), some (.ref D), some (.int r), some (.ref p), some (.ref Lv), some (.int (pre (gs.take c))), v14, v15, v16, none, none] ∧
        Sm P G' G1 ∧ G1 Lv = some (.lst (ns.map V.int)) ∧ Lvs gs c ns) ⟨[0], v14, rfl, Sm.new tG hLv, upd_same, Lvs.nil gs⟩ (fun c σ G1 _ ⟨_, _, _, q, _⟩ => q.tup tG hrow.1) ?_ ?_⟩
      · rintro c x σ G1 hx ⟨ns, v14, rfl, q1, q2, q3⟩
        obtain ⟨g, hg, q, rfl, hq⟩ := paired_get hrow.2.1 hx
        have hc : c < gs.length := (List.getElem?_eq_some_iff.mp hg).1
        have hq' := q1.tup tG hq
        refine ⟨_, rfl, _, rfl, q, _, _, _, rfl, rfl, hq', atI_nat (j := 0) (vs0 g), rfl, .inr ⟨_, rfl, _, _, rfl, rfl, _, rfl, q, _, _, _, rfl, rfl, hq', atI_nat (j := 0) (vs0 g), rfl, .inr ⟨_, rfl, _, _, rfl, rfl, ?_⟩⟩⟩
        dsimp only
        rw [step_eq, ← pre_snoc hg]
        refine ⟨_, rfl, .inl ⟨rfl, _, SqL.of q2⟩, _, rfl, Lv, _, _, rfl, rfl, q2, ?_, ?_⟩
        · rw [List.length_map, q3.1]
          exact small (by omega)
        · refine ⟨ns ++ [pre (gs.take (c + 1))], _, rfl, q1.mut hLv LP, ?_, q3.snoc⟩
          rw [upd_same, List.map_append]
          rfl
      · rintro σ G1 ⟨ns, v14, rfl, q1, q2, q3⟩
        rw [lx, List.take_length]
        rw [lx] at q3
        have C1 := C0.step q1
        have lev1 : ∀ (G2 : Hp), Sm P G1 G2 → LevAt K [some (.ref a), some (.ref b), some (.ref la), some (.ref tx), some (.ref sg), some (.int (mostOf L X : Nat)), some (.int (i : Nat)),
          some (.int ((cnt 0 ((rows (sgsOf L X) i).take j) : Nat) : Int)), some (.int ((cnt r ((rows (sgsOf L X) i).take j) : Nat) : Int)), some (.ref D), some (.int r), some (.ref p), some (.ref Lv), some (.int (pre gs)), v14, v15, v16, none, none] G2 gs :=
          fun G2 s => ⟨Lv, ns, rfl, rfl, SqL.of (s.atL C1.sm.2 q2), q3⟩
        -- is_stream(row) != ..
        refine ⟨_, rfl, C1.sm.2, _, ⟨p, xs, gs, rfl, hrow.mono tG q1, rfl⟩, fun v G2 s2 ev => ?_⟩
        subst ev
        refine ⟨gs, lev1 G2 s2, rfl, false, congrArg V.bl ?_, iteF ?_⟩
        · rw [decide_eq_true rfl]
          rfl
        have q12 := q1.trans s2
        -- the row's levels
        refine ⟨q12.2, gs, p, xs, lev1 G2 s2, rfl, hrow.mono tG q12, hlay, l4, fun G3 s3 => iteF ?_⟩
        have q13 := q12.trans s3
        -- endings = ..
        refine ⟨_, rfl, _, rfl, _, rfl, q13.2, _, ⟨p, xs, gs, r, rfl, r0, hrow.mono tG q13, rfl⟩, fun v G4 s4 ev => ?_⟩
        subst ev
        have q14 := q13.trans s4
        have C4 := C0.step q14
        refine .inr ⟨_, rfl, _, _, rfl, rfl, ?_⟩
        have ecnt : ((cnt r ((rows (sgsOf L X) i).take j) : Nat) : Int) + (if isEnd r gs = true then 1 else 0) = ((cnt r ((rows (sgsOf L X) i).take (j + 1)) : Nat) : Int) := by
          rw [cnt_snoc hgj]
          split <;> simp
        dsimp only
        rw [ecnt]
        have hrr4 : G4 rr = some (.lst ys) := q14.atL tG hrr'
        have hys4 : Paired (RowN K i G4) ys (rows (sgsOf L X) i) := paired_mono (fun _ _ h => h.mono tG q14) hys'
        have dk4 := dk.keep tG q14
        -- if level == 0 and ..
        refine ⟨gs, ⟨Lv, ns, rfl, rfl, SqL.of (((s2.trans s3).trans s4).atL C1.sm.2 q2), q3⟩, ?_⟩
        refine ite2 (fun he => ?_) (fun he => ?_)
        · have kt : isEnd 0 gs = true := he
          have ec : ((cnt 0 ((rows (sgsOf L X) i).take j) : Nat) : Int) + 1 = ((cnt 0 ((rows (sgsOf L X) i).take (j + 1)) : Nat) : Int) := by
            rw [cnt_snoc hgj, if_pos kt]
            omega
          have hrow4 := hrow.mono tG q14
          have sgn := signs_nodes kt
          have t4 := C4.sm.2
          -- streams = .., document = ..
          refine ⟨_, rfl, _, _, rfl, rfl, ?_⟩
          dsimp only
          rw [ec]
          refine ⟨_, rfl, t4, _, ⟨p, xs, gs, rfl, hrow4, by omega, kt, rfl⟩, fun dv G5 s5 hd => ?_⟩
          obtain ⟨zd, zs, rfl, hz, hzs⟩ := dp_tup hd
          have C5 := C4.step s5
          have dk5 := dk4.keep t4 s5
          have hrow5 := hrow4.mono t4 s5
          have un := hK.unlike RN hgj kt
          have ka5 : KeyAt K G5 zd (nodesOf gs) := ⟨zs, hz, hzs, by rw [sgn]; omega⟩
          -- documents.get(document, row) != row or signs_of(document) != row
          refine ⟨_, rfl, D, l, rfl, dk5, _, rfl, _, rfl, zd, nodesOf gs, l, rfl, dk5, ka5, un, _, rfl, _, _, row_dp hrow5, row_dp hrow5, row_shaped hlay, row_shaped hlay, false, congrArg V.bl (row_eqv hlay), iteF ?_⟩
          refine ⟨_, rfl, C5.sm.2, _, ⟨zd, zs, nodesOf gs, rfl, hz, hzs, by rw [sgn]; exact hrow.2.2.1, by rw [sgn]; omega, rfl⟩, fun sv G6 s6 ⟨q6, ys6, ev6, hr6⟩ => ?_⟩
          subst ev6
          rw [sgn] at hr6
          refine ⟨_, rfl, _, _, row_dp hr6, row_dp (hrow5.mono C5.sm.2 s6), row_shaped hlay, row_shaped hlay, false, congrArg V.bl (row_eqv hlay), iteF ?_⟩
          -- documents[document] = row
          have C6 := C5.step s6
          have dk6 := dk5.keep C5.sm.2 s6
          have ka6 : KeyAt K G6 zd (nodesOf gs) := ka5.tp (Tp.sm C5.sm.2 s6)
          have ll : l.length < 10000 := by
            rw [hK.1]
            have : cnt 0 ((rows (sgsOf L X) i).take j) ≤ ((rows (sgsOf L X) i).take j).length := List.length_filter_le _ _
            rw [List.length_take] at this
            omega
          refine ⟨_, rfl, _, rfl, _, rfl, D, l, p, zd, nodesOf gs, rfl, rfl, rfl, dk6, ka6, un, ll, ?_⟩
          have s46 := s5.trans s6
          have hrr6 : G6 rr = some (.lst ys) := s46.atL t4 hrr4
          refine ⟨l ++ [(nodesOf gs, zd, p)], some (.ref p), some (.ref Lv), some (.int (pre gs)), v14, some (.ref zd), rfl, C6.write dk6.1 D0 DP, dk6.put ka6, hK.more hgj kt, ?_, ?_⟩
          · rw [upd_ne (ne_of hrr6 dk6.1 (fun q => nomatch q))]
            exact hrr6
          · exact paired_mono (fun _ _ h => (h.mono t4 s46).tp (Tp.ext dk6.1)) hys4
        · have he' : isEnd 0 gs = false := by simpa using he
          have e0 : cnt 0 ((rows (sgsOf L X) i).take (j + 1)) = cnt 0 ((rows (sgsOf L X) i).take j) := by
            rw [cnt_snoc hgj, if_neg (by rw [he']; exact Bool.false_ne_true)]
            rfl
          refine ⟨l, some (.ref p), some (.ref Lv), some (.int (pre gs)), v14, v15, ?_, C4, dk4, hK.skip hgj he', hrr4, hys4⟩
          rw [e0]
          rfl
    · rintro σ G' ⟨l, v11, v12, v13, v14, v15, rfl, C0, dk, hK, hrr', hys'⟩
      rw [ly, List.take_length]
      rw [ly, List.take_length] at hK
      have tG := C0.sm.2
      obtain ⟨w0, wa⟩ := gd.at' i hi
      have wr := wa r r0 r3
      -- kinds = ..
      refine ⟨_, rfl, la, _, rfl, .inl (SqL.of C0.hl), _, rfl, tx, _, rfl, .inl (SqL.of C0.ht), two, fun kA hkA => ?_⟩
      rw [List.length_map, List.length_map]
      have s1 := Sm.new (o := .lst [.int (L.length : Nat), .int (X.length : Nat)]) tG hkA
      have C1 := C0.step s1
      have dk1 := dk.keep tG s1
      -- [streams, len(documents), endings] != ..
      refine ⟨_, rfl, _, rfl, D, l, rfl, dk1, _, rfl, three, fun A1 hA1 => ?_⟩
      have s2 := s1.trans (Sm.new (o := .lst [.int ((cnt 0 (rows (sgsOf L X) i) : Nat) : Int), .int ((l.length : Nat) : Int), .int ((cnt r (rows (sgsOf L X) i) : Nat) : Int)]) s1.2 hA1)
      have k2 : SqL K _ kA [.int (L.length : Nat), .int (X.length : Nat)] := SqL.of ((Sm.new (o := .lst [.int ((cnt 0 (rows (sgsOf L X) i) : Nat) : Int), .int ((l.length : Nat) : Int), .int ((cnt r (rows (sgsOf L X) i) : Nat) : Int)]) s1.2 hA1).atL s1.2 upd_same)
      have p1 := gd.l2
      have p2 := gd.x2
      refine ⟨_, rfl, _, rfl, s2.2, _, ⟨kA, _, _, i, 0, rfl, k2, by omega, by omega, by omega, by omega, by omega, by omega, by omega, rfl⟩, fun v G1 s3 ev => ?_⟩
      subst ev
      have s23 := s2.trans s3
      refine ⟨one, fun A2 hA2 => ?_⟩
      have s4 := s23.trans (Sm.new (o := .lst [.int (ways (L.length : Nat) (X.length : Nat) i 0)]) s23.2 hA2)
      refine ⟨A2, 2, [.int (ways (L.length : Nat) (X.length : Nat) i 0)], rfl, rfl, upd_same, by decide, by decide, two, fun A3 hA3 => ?_⟩
      have s5 := s4.trans (Sm.new (o := .lst [.int (ways (L.length : Nat) (X.length : Nat) i 0), .int (ways (L.length : Nat) (X.length : Nat) i 0)]) s4.2 hA3)
      have s15 : Sm P _ _ := (Sm.new (o := .lst [.int ((cnt 0 (rows (sgsOf L X) i) : Nat) : Int), .int ((l.length : Nat) : Int), .int ((cnt r (rows (sgsOf L X) i) : Nat) : Int)]) s1.2 hA1).trans (s3.trans ((Sm.new (o := .lst [.int (ways (L.length : Nat) (X.length : Nat) i 0)]) s23.2 hA2).trans (Sm.new (o := .lst [.int (ways (L.length : Nat) (X.length : Nat) i 0), .int (ways (L.length : Nat) (X.length : Nat) i 0)]) s4.2 hA3)))
      have s25 : Sm P _ _ := s3.trans ((Sm.new (o := .lst [.int (ways (L.length : Nat) (X.length : Nat) i 0)]) s23.2 hA2).trans (Sm.new (o := .lst [.int (ways (L.length : Nat) (X.length : Nat) i 0), .int (ways (L.length : Nat) (X.length : Nat) i 0)]) s4.2 hA3))
      refine ⟨_, rfl, _, rfl, _, rfl, s5.2, _, ⟨kA, _, _, i, r, rfl, SqL.of (s15.atL s1.2 upd_same), by omega, by omega, by omega, by omega, by omega, by omega, by omega, rfl⟩, fun v2 G2 s6 ev2 => ?_⟩
      subst ev2
      have s56 := s5.trans s6
      refine ⟨one, fun A4 hA4 => ⟨A3, A4, [.int (ways (L.length : Nat) (X.length : Nat) i 0), .int (ways (L.length : Nat) (X.length : Nat) i 0)], [.int (ways (L.length : Nat) (X.length : Nat) i r)], rfl, rfl, ?_, upd_same, three, fun A5 hA5 => ?_⟩⟩
      · exact (s6.trans (Sm.new s56.2 hA4)).atL s5.2 upd_same
      have s7 := s56.trans (Sm.new (o := .lst [.int (ways (L.length : Nat) (X.length : Nat) i r)]) s56.2 hA4)
      have s8 := s7.trans (Sm.new (o := .lst [.int (ways (L.length : Nat) (X.length : Nat) i 0), .int (ways (L.length : Nat) (X.length : Nat) i 0), .int (ways (L.length : Nat) (X.length : Nat) i r)]) s7.2 hA5)
      have s28 := s25.trans (s6.trans ((Sm.new (o := .lst [.int (ways (L.length : Nat) (X.length : Nat) i r)]) s56.2 hA4).trans (Sm.new (o := .lst [.int (ways (L.length : Nat) (X.length : Nat) i 0), .int (ways (L.length : Nat) (X.length : Nat) i 0), .int (ways (L.length : Nat) (X.length : Nat) i r)]) s7.2 hA5)))
      have hA1' := s28.atL s2.2 (xs := [.int ((cnt 0 (rows (sgsOf L X) i) : Nat) : Int), .int ((l.length : Nat) : Int), .int ((cnt r (rows (sgsOf L X) i) : Nat) : Int)]) upd_same
      rw [hK.1, w0, wr] at hA1'
      refine ⟨.list [.int (ways (L.length : Nat) (X.length : Nat) i 0), .int (ways (L.length : Nat) (X.length : Nat) i 0), .int (ways (L.length : Nat) (X.length : Nat) i r)], .list [.int (ways (L.length : Nat) (X.length : Nat) i 0), .int (ways (L.length : Nat) (X.length : Nat) i 0), .int (ways (L.length : Nat) (X.length : Nat) i r)],
        .lst (SqL.of hA1') (.cons (.int _) (.cons (.int _) (.cons (.int _) .nil))), .lst (SqL.of upd_same) (.cons (.int _) (.cons (.int _) (.cons (.int _) .nil))), rfl, rfl, false, congrArg V.bl ?_, iteF ?_⟩
      · rw [PySem.SeqAt.eqv_refl _ rfl]
        rfl
      · exact ⟨_, _, _, _, _, _, _, _, _, _, _, rfl, C0.step s8⟩
end
end K6

set_option maxRecDepth 100000
set_option maxHeartbeats 8000000
namespace K6
open PySem PySem.Spec PyProof.Rows L2 So
theorem tab_mk {K : PySem.W.Frag} {x : Str} {f c P : Addr} {o1 : Value} {o2 : Option Addr} {o3 : Array (Option Value)} {fd : FuncData} {e1 : Value} {e2 : Option Addr} {vs : Array Value} {e3 : Array (Option Value)} (a : PySem.W.nsIn K mainGlobals x = some (some (.ref f))) (l : K.lookup f = some ⟨o1, o2, .func fd, o3⟩) (hc : fd.code = .ref c)
    (lc : K.lookup c = some ⟨e1, e2, .fields vs, e3⟩) (hp : vs[11]? = some (.ref P)) : PySem.W.tabIn K x = some (c, P) := by
  unfold PySem.W.tabIn
  rw [a]
  dsimp only
  rw [l]
  dsimp only
  rw [hc]
  dsimp only
  rw [lc]
  dsimp only
  rw [hp]
theorem exm_self {K : PySem.W.Frag} {S : Addr} (h1 : PySem.W.subIn K (.ref S) (.type "BaseException") = some true) (h2 : PySem.W.isClsIn K S = true) (h3 : PySem.W.typeIn K (.ref S) = some (.type "type")) (h4 : PySem.W.subIn K (.ref S) (.ref S) = some true) :
    PySem.W.exmOne K (.ref S) (.ref S) = some true := by
  have e1 : (PySem.W.subIn K (.ref S) (.type "BaseException") == some true) = true := by rw [h1] <;> rfl
  have e2 : ((PySem.W.clsIn K S).isSome && PySem.W.typeIn K (.ref S) == some (.type "type")) = true := by
    have h2' : (PySem.W.clsIn K S).isSome = true := h2
    rw [h2', h3] <;> rfl
  show (if (PySem.W.subIn K (.ref S) (.type "BaseException") == some true) = true then (if ((PySem.W.clsIn K S).isSome && PySem.W.typeIn K (.ref S) == some (.type "type")) = true then PySem.W.subIn K (.ref S) (.ref S) else none) else none) = some true
  rw [if_pos e1, if_pos e2]
  exact h4
/-- what is known of the program behind its top -/
def Known (Pg : Program) (w : World) (K : PySem.W.Frag) (mg : Str → Option Value) (fa : Addr) : Prop := ∃ (c P : Addr) (fd : FuncData), PySem.W.tabIn K "is_label" = some (c, P) ∧ K.lookup P = none ∧ (∀ (s : Shared) (u : Value), BindsTo s fd ⟨[u], []⟩ [("script", u)]) ∧
  ∀ base : Heap, K.In base → base.Ns mainGlobals mg → GxR.TabB base mg c P → FnOk Pg w K mg base CX0 8 fa fd ["script"] (spLaw K P)
theorem all_mk {Pg : Program} {w : World} {K : PySem.W.Frag} {h : Heap} {mg : Str → Option Value} {fa C c P O fI : Addr} (X : K.In h) (G : h.Ns mainGlobals mg) (hfa : mg "law" = some (.ref fa))
    {f1 f2 f3 f4 f5 f6 f7 f8 f9 f10 f11 f12 f13 f14 f15 f16 f17 f18 f19 f20 f21 f22 f23 f24 f25 f26 f27 : Addr}
    {od0 an0 od1 an1 od2 an2 od3 an3 od4 an4 od5 an5 od6 an6 od7 an7 od8 an8 od9 an9 od10 an10 od11 an11 od12 an12 od13 an13 od14 an14 od15 an15 od16 an16 od17 an17 od18 an18 od19 an19 od20 an20 od21 an21 od22 an22 od23 an23 od24 an24 od25 an25 od26 an26 od27 an27 : Option Addr} {sl0 sl1 sl2 sl3 sl4 sl5 sl6 sl7 sl8 sl9 sl10 sl11 sl12 sl13 sl14 sl15 sl16 sl17 sl18 sl19 sl20 sl21 sl22 sl23 sl24 sl25 sl26 sl27 : Array (Option Value)} {oc0 kV0 dc0 pm0 ct0 oc1 kV1 dc1 pm1 ct1 oc2 kV2 dc2 pm2 ct2 oc3 kV3 dc3 pm3 ct3 oc4 kV4 dc4 pm4 ct4 oc5 kV5 dc5 pm5 ct5 oc6 kV6 dc6 pm6 ct6 oc7 kV7 dc7 pm7 ct7 oc8 kV8 dc8 pm8 ct8 oc9 kV9 dc9 pm9 ct9 oc10 kV10 dc10 pm10 ct10 oc11 kV11 dc11 pm11 ct11 oc12 kV12 dc12 pm12 ct12 oc13 kV13 dc13 pm13 ct13 oc14 kV14 dc14 pm14 ct14 oc15 kV15 dc15 pm15 ct15 oc16 kV16 dc16 pm16 ct16 oc17 kV17 dc17 pm17 ct17 oc18 kV18 dc18 pm18 ct18 oc19 kV19 dc19 pm19 ct19 oc20 kV20 dc20 pm20 ct20 oc21 kV21 dc21 pm21 ct21 oc22 kV22 dc22 pm22 ct22 oc23 kV23 dc23 pm23 ct23 oc24 kV24 dc24 pm24 ct24 oc25 kV25 dc25 pm25 ct25 oc26 kV26 dc26 pm26 ct26 oc27 kV27 dc27 pm27 ct27 cd0 cd1 cd2 cd3 cd5 cd6 cd7 cd8 cd9 cd10 cd11 cd12 cd13 cd14 cd15 cd16 cd17 cd18 cd19 cd20 cd21 cd22 cd23 cd24 cd25 cd26 cd27 : Value}
    {nm q : Str} {N : Addr} {bs : List Value} {sn : List Str} {sub : List Value} {ab : Bool} {col : Option Bool} {dd : Option Addr} {m0 m1 m2 m3 m5 : Option Value} {e1 : Value} {e2 : Option Addr} {vs : Array Value} {e3 : Array (Option Value)} {tL tM tT : Tok}
    (a1 : PySem.W.nsIn K mainGlobals "is_number" = some (some (.ref f1))) (l1 : K.lookup f1 = some ⟨oc1, od1, .func (PySem.W.fnOf "is_number" "is_number" (defArgs sNum) (defBody sNum) (defScope sNum) .none kV1 dc1 pm1 an1 cd1 ct1), sl1⟩) (c1 : PySem.W.codeIn K cd1 "is_number" = true) (k1 : PySem.W.keepIn K (.ref f1) = true)
    (a2 : PySem.W.nsIn K mainGlobals "is_sequence" = some (some (.ref f2))) (l2 : K.lookup f2 = some ⟨oc2, od2, .func (PySem.W.fnOf "is_sequence" "is_sequence" (defArgs sSeq) (defBody sSeq) (defScope sSeq) .none kV2 dc2 pm2 an2 cd2 ct2), sl2⟩) (c2 : PySem.W.codeIn K cd2 "is_sequence" = true) (k2 : PySem.W.keepIn K (.ref f2) = true)
    (a3 : PySem.W.nsIn K mainGlobals "is_row_of" = some (some (.ref f3))) (l3 : K.lookup f3 = some ⟨oc3, od3, .func (PySem.W.fnOf "is_row_of" "is_row_of" (defArgs sRow) (defBody sRow) (defScope sRow) .none kV3 dc3 pm3 an3 cd3 ct3), sl3⟩) (c3 : PySem.W.codeIn K cd3 "is_row_of" = true) (k3 : PySem.W.keepIn K (.ref f3) = true)
    (a4 : PySem.W.nsIn K mainGlobals "is_label" = some (some (.ref f4))) (l4 : K.lookup f4 = some ⟨oc4, od4, .func (PySem.W.fnOf "is_label" "is_label" (defArgs sLab) (defBody sLab) (defScope sLab) .none kV4 dc4 pm4 an4 (.ref c) ct4), sl4⟩) (c4 : PySem.W.codeIn K (.ref c) "is_label" = true) (k4 : PySem.W.keepIn K (.ref f4) = true)
    (a5 : PySem.W.nsIn K mainGlobals "is_text" = some (some (.ref f5))) (l5 : K.lookup f5 = some ⟨oc5, od5, .func (PySem.W.fnOf "is_text" "is_text" (defArgs sTxt) (defBody sTxt) (defScope sTxt) .none kV5 dc5 pm5 an5 cd5 ct5), sl5⟩) (c5 : PySem.W.codeIn K cd5 "is_text" = true) (k5 : PySem.W.keepIn K (.ref f5) = true)
    (a6 : PySem.W.nsIn K mainGlobals "_sign_fault" = some (some (.ref f6))) (l6 : K.lookup f6 = some ⟨oc6, od6, .func (PySem.W.fnOf "_sign_fault" "_sign_fault" (defArgs sFau) (defBody sFau) (defScope sFau) .none kV6 dc6 pm6 an6 cd6 ct6), sl6⟩) (c6 : PySem.W.codeIn K cd6 "_sign_fault" = true) (k6 : PySem.W.keepIn K (.ref f6) = true)
    (a7 : PySem.W.nsIn K mainGlobals "is_sign" = some (some (.ref f7))) (l7 : K.lookup f7 = some ⟨oc7, od7, .func (PySem.W.fnOf "is_sign" "is_sign" (defArgs sSgn) (defBody sSgn) (defScope sSgn) .none kV7 dc7 pm7 an7 cd7 ct7), sl7⟩) (c7 : PySem.W.codeIn K cd7 "is_sign" = true) (k7 : PySem.W.keepIn K (.ref f7) = true)
    (a8 : PySem.W.nsIn K mainGlobals "read_levels" = some (some (.ref f8))) (l8 : K.lookup f8 = some ⟨oc8, od8, .func (PySem.W.fnOf "read_levels" "read_levels" (defArgs sRdl) (defBody sRdl) (defScope sRdl) .none kV8 dc8 pm8 an8 cd8 ct8), sl8⟩) (c8 : PySem.W.codeIn K cd8 "read_levels" = true) (k8 : PySem.W.keepIn K (.ref f8) = true)
    (a9 : PySem.W.nsIn K mainGlobals "_step_of" = some (some (.ref f9))) (l9 : K.lookup f9 = some ⟨oc9, od9, .func (PySem.W.fnOf "_step_of" "_step_of" (defArgs sStp) (defBody sStp) (defScope sStp) .none kV9 dc9 pm9 an9 cd9 ct9), sl9⟩) (c9 : PySem.W.codeIn K cd9 "_step_of" = true) (k9 : PySem.W.keepIn K (.ref f9) = true)
    (a10 : PySem.W.nsIn K mainGlobals "_read_whole" = some (some (.ref f10))) (l10 : K.lookup f10 = some ⟨oc10, od10, .func (PySem.W.fnOf "_read_whole" "_read_whole" (defArgs sRwh) (defBody sRwh) (defScope sRwh) .none kV10 dc10 pm10 an10 cd10 ct10), sl10⟩) (c10 : PySem.W.codeIn K cd10 "_read_whole" = true) (k10 : PySem.W.keepIn K (.ref f10) = true)
    (a11 : PySem.W.nsIn K mainGlobals "check_prefix" = some (some (.ref f11))) (l11 : K.lookup f11 = some ⟨oc11, od11, .func (PySem.W.fnOf "check_prefix" "check_prefix" (defArgs sCpf) (defBody sCpf) (defScope sCpf) .none kV11 dc11 pm11 an11 cd11 ct11), sl11⟩) (c11 : PySem.W.codeIn K cd11 "check_prefix" = true) (k11 : PySem.W.keepIn K (.ref f11) = true)
    (a12 : PySem.W.nsIn K mainGlobals "check_stream" = some (some (.ref f12))) (l12 : K.lookup f12 = some ⟨oc12, od12, .func (PySem.W.fnOf "check_stream" "check_stream" (defArgs sCst) (defBody sCst) (defScope sCst) .none kV12 dc12 pm12 an12 cd12 ct12), sl12⟩) (c12 : PySem.W.codeIn K cd12 "check_stream" = true) (k12 : PySem.W.keepIn K (.ref f12) = true)
    (a13 : PySem.W.nsIn K mainGlobals "is_stream" = some (some (.ref f13))) (l13 : K.lookup f13 = some ⟨oc13, od13, .func (PySem.W.fnOf "is_stream" "is_stream" (defArgs sIst) (defBody sIst) (defScope sIst) .none kV13 dc13 pm13 an13 cd13 ct13), sl13⟩) (c13 : PySem.W.codeIn K cd13 "is_stream" = true) (k13 : PySem.W.keepIn K (.ref f13) = true)
    (a14 : PySem.W.nsIn K mainGlobals "check_ending" = some (some (.ref f14))) (l14 : K.lookup f14 = some ⟨oc14, od14, .func (PySem.W.fnOf "check_ending" "check_ending" (defArgs sCen) (defBody sCen) (defScope sCen) .none kV14 dc14 pm14 an14 cd14 ct14), sl14⟩) (c14 : PySem.W.codeIn K cd14 "check_ending" = true) (k14 : PySem.W.keepIn K (.ref f14) = true)
    (a15 : PySem.W.nsIn K mainGlobals "is_ending" = some (some (.ref f15))) (l15 : K.lookup f15 = some ⟨oc15, od15, .func (PySem.W.fnOf "is_ending" "is_ending" (defArgs sIen) (defBody sIen) (defScope sIen) .none kV15 dc15 pm15 an15 cd15 ct15), sl15⟩) (c15 : PySem.W.codeIn K cd15 "is_ending" = true) (k15 : PySem.W.keepIn K (.ref f15) = true)
    (a16 : PySem.W.nsIn K mainGlobals "depth" = some (some (.ref f16))) (l16 : K.lookup f16 = some ⟨oc16, od16, .func (PySem.W.fnOf "depth" "depth" (defArgs sDep) (defBody sDep) (defScope sDep) .none kV16 dc16 pm16 an16 cd16 ct16), sl16⟩) (c16 : PySem.W.codeIn K cd16 "depth" = true) (k16 : PySem.W.keepIn K (.ref f16) = true)
    (a17 : PySem.W.nsIn K mainGlobals "_is_text_node" = some (some (.ref f17))) (l17 : K.lookup f17 = some ⟨oc17, od17, .func (PySem.W.fnOf "_is_text_node" "_is_text_node" (defArgs sItn) (defBody sItn) (defScope sItn) .none kV17 dc17 pm17 an17 cd17 ct17), sl17⟩) (c17 : PySem.W.codeIn K cd17 "_is_text_node" = true) (k17 : PySem.W.keepIn K (.ref f17) = true)
    (a18 : PySem.W.nsIn K mainGlobals "_is_element_node" = some (some (.ref f18))) (l18 : K.lookup f18 = some ⟨oc18, od18, .func (PySem.W.fnOf "_is_element_node" "_is_element_node" (defArgs sIen') (defBody sIen') (defScope sIen') .none kV18 dc18 pm18 an18 cd18 ct18), sl18⟩) (c18 : PySem.W.codeIn K cd18 "_is_element_node" = true) (k18 : PySem.W.keepIn K (.ref f18) = true)
    (a19 : PySem.W.nsIn K mainGlobals "signs_of" = some (some (.ref f19))) (l19 : K.lookup f19 = some ⟨oc19, od19, .func (PySem.W.fnOf "signs_of" "signs_of" (defArgs sSig) (defBody sSig) (defScope sSig) .none kV19 dc19 pm19 an19 cd19 ct19), sl19⟩) (c19 : PySem.W.codeIn K cd19 "signs_of" = true) (k19 : PySem.W.keepIn K (.ref f19) = true)
    (a20 : PySem.W.nsIn K mainGlobals "_nodes_of" = some (some (.ref f20))) (l20 : K.lookup f20 = some ⟨oc20, od20, .func (PySem.W.fnOf "_nodes_of" "_nodes_of" (defArgs sNod) (defBody sNod) (defScope sNod) .none kV20 dc20 pm20 an20 cd20 ct20), sl20⟩) (c20 : PySem.W.codeIn K cd20 "_nodes_of" = true) (k20 : PySem.W.keepIn K (.ref f20) = true)
    (a21 : PySem.W.nsIn K mainGlobals "document_of" = some (some (.ref f21))) (l21 : K.lookup f21 = some ⟨oc21, od21, .func (PySem.W.fnOf "document_of" "document_of" (defArgs sDoc) (defBody sDoc) (defScope sDoc) .none kV21 dc21 pm21 an21 cd21 ct21), sl21⟩) (c21 : PySem.W.codeIn K cd21 "document_of" = true) (k21 : PySem.W.keepIn K (.ref f21) = true)
    (a22 : PySem.W.nsIn K mainGlobals "_law_box" = some (some (.ref f22))) (l22 : K.lookup f22 = some ⟨oc22, od22, .func (PySem.W.fnOf "_law_box" "_law_box" (defArgs sBox) (defBody sBox) (defScope sBox) .none kV22 dc22 pm22 an22 cd22 ct22), sl22⟩) (c22 : PySem.W.codeIn K cd22 "_law_box" = true) (k22 : PySem.W.keepIn K (.ref f22) = true)
    (a23 : PySem.W.nsIn K mainGlobals "_law_take" = some (some (.ref f23))) (l23 : K.lookup f23 = some ⟨oc23, od23, .func (PySem.W.fnOf "_law_take" "_law_take" (defArgs sTak) (defBody sTak) (defScope sTak) .none kV23 dc23 pm23 an23 cd23 ct23), sl23⟩) (c23 : PySem.W.codeIn K cd23 "_law_take" = true) (k23 : PySem.W.keepIn K (.ref f23) = true)
    (a24 : PySem.W.nsIn K mainGlobals "_law_pick" = some (some (.ref f24))) (l24 : K.lookup f24 = some ⟨oc24, od24, .func (PySem.W.fnOf "_law_pick" "_law_pick" (defArgs sPck) (defBody sPck) (defScope sPck) .none kV24 dc24 pm24 an24 cd24 ct24), sl24⟩) (c24 : PySem.W.codeIn K cd24 "_law_pick" = true) (k24 : PySem.W.keepIn K (.ref f24) = true)
    (a25 : PySem.W.nsIn K mainGlobals "_law_rows" = some (some (.ref f25))) (l25 : K.lookup f25 = some ⟨oc25, od25, .func (PySem.W.fnOf "_law_rows" "_law_rows" (defArgs sRws) (defBody sRws) (defScope sRws) .none kV25 dc25 pm25 an25 cd25 ct25), sl25⟩) (c25 : PySem.W.codeIn K cd25 "_law_rows" = true) (k25 : PySem.W.keepIn K (.ref f25) = true)
    (a26 : PySem.W.nsIn K mainGlobals "_law_ways" = some (some (.ref f26))) (l26 : K.lookup f26 = some ⟨oc26, od26, .func (PySem.W.fnOf "_law_ways" "_law_ways" (defArgs sWys) (defBody sWys) (defScope sWys) .none kV26 dc26 pm26 an26 cd26 ct26), sl26⟩) (c26 : PySem.W.codeIn K cd26 "_law_ways" = true) (k26 : PySem.W.keepIn K (.ref f26) = true)
    (a27 : PySem.W.nsIn K mainGlobals "law" = some (some (.ref f27))) (l27 : K.lookup f27 = some ⟨oc27, od27, .func (PySem.W.fnOf "law" "law" (defArgs sLaw) (defBody sLaw) (defScope sLaw) .none kV27 dc27 pm27 an27 cd27 ct27), sl27⟩) (c27 : PySem.W.codeIn K cd27 "law" = true) (k27 : PySem.W.keepIn K (.ref f27) = true)
    (lc : K.lookup c = some ⟨e1, e2, .fields vs, e3⟩) (hp : vs[11]? = some (.ref P)) (nT : K.lookup P = none)
    (aC : PySem.W.nsIn K mainGlobals "BadStream" = some (some (.ref C)))
    (xL : K.lookup C = some (excClassObj nm q C N bs [.ref O, .type "ValueError", .type "Exception", .type "BaseException", .type "object"] true sn sub ab col dd m0 m1 m2 m3 m5 "ValueError.__new__"))
    (sa : PySem.W.findIn K (.ref C) "__setattr__" = some (some (.builtin "object.__setattr__"))) (na : PySem.W.findIn K (.ref C) "at" = some none)
    (aI : PySem.W.findIn K (.ref C) "__init__" = some (some (.ref fI))) (tI : PySem.W.typeIn K (.ref fI) = some (.type "function"))
    (lI : K.lookup fI = some ⟨oc0, od0, .func (PySem.W.fnOf "__init__" "BadStream.__init__" (defArgs sIni) (defBody sIni) (defScope sIni) .none kV0 dc0 pm0 an0 cd0 ct0), sl0⟩) (cI : PySem.W.codeIn K cd0 "BadStream.__init__" = true) (kI : PySem.W.keepIn K (.ref fI) = true)
    (kC : PySem.W.keepIn K (.ref C) = true) (eC : PySem.W.subIn K (.ref C) (.type "BaseException") = some true) (tC : PySem.W.typeIn K (.ref C) = some (.type "type")) (iC : PySem.W.isClsIn K C = true) (sC : PySem.W.subIn K (.ref C) (.ref C) = some true)
    (z0 : PySem.W.nsIn K mainGlobals "isinstance" = some none)
    (z1 : PySem.W.nsIn K mainGlobals "list" = some none)
    (z2 : PySem.W.nsIn K mainGlobals "tuple" = some none)
    (z3 : PySem.W.nsIn K mainGlobals "len" = some none)
    (z4 : PySem.W.nsIn K mainGlobals "int" = some none)
    (z5 : PySem.W.nsIn K mainGlobals "bool" = some none)
    (z6 : PySem.W.nsIn K mainGlobals "str" = some none)
    (z7 : PySem.W.nsIn K mainGlobals "all" = some none)
    (z8 : PySem.W.nsIn K mainGlobals "enumerate" = some none)
    (z9 : PySem.W.nsIn K mainGlobals "reversed" = some none)
    (z10 : PySem.W.nsIn K mainGlobals "range" = some none)
    (z11 : PySem.W.nsIn K mainGlobals "abs" = some none)
    (z12 : PySem.W.nsIn K mainGlobals "sorted" = some none)
    (z13 : PySem.W.nsIn K mainGlobals "min" = some none)
    (vL : PySem.W.nsIn K mainGlobals "LETTERS" = some (some (.str lets tL))) (vM : PySem.W.nsIn K mainGlobals "LABEL_MOST" = some (some (.int 12 tM))) (vT : PySem.W.nsIn K mainGlobals "TEXT_MOST" = some (some (.int 65535 tT))) :
    Known Pg w K mg fa := by
  have e := hfa.symm.trans (PySem.W.mg_of X G a27)
  cases e
  have T : Tx K mg := ⟨PySem.W.mg_none_of X G z0, PySem.W.mg_none_of X G z1, PySem.W.mg_none_of X G z2, PySem.W.mg_none_of X G z3, PySem.W.mg_none_of X G z4, PySem.W.mg_none_of X G z5, PySem.W.mg_none_of X G z6, PySem.W.mg_none_of X G z7, PySem.W.mg_none_of X G z8, PySem.W.mg_none_of X G z9, PySem.W.mg_none_of X G z10, PySem.W.mg_none_of X G z11, PySem.W.mg_none_of X G z12, PySem.W.mg_none_of X G z13, ⟨tL, PySem.W.mg_of X G vL⟩, ⟨tM, PySem.W.mg_of X G vM⟩, ⟨tT, PySem.W.mg_of X G vT⟩⟩
  have F1 := fun_mk (st := sNum) l1 c1 k1
  have b1 := F1.binds (ps := ["value"]) fun _ _ _ _ _ _ us hl => match us, hl with | [_], _ => rfl
  have D1 : Df K mg "is_number" sNum ["value"] f1 _ := ⟨F1, PySem.W.mg_of X G a1, b1⟩
  have F2 := fun_mk (st := sSeq) l2 c2 k2
  have b2 := F2.binds (ps := ["value"]) fun _ _ _ _ _ _ us hl => match us, hl with | [_], _ => rfl
  have D2 : Df K mg "is_sequence" sSeq ["value"] f2 _ := ⟨F2, PySem.W.mg_of X G a2, b2⟩
  have F3 := fun_mk (st := sRow) l3 c3 k3
  have b3 := F3.binds (ps := ["value", "many"]) fun _ _ _ _ _ _ us hl => match us, hl with | [_, _], _ => rfl
  have D3 : Df K mg "is_row_of" sRow ["value", "many"] f3 _ := ⟨F3, PySem.W.mg_of X G a3, b3⟩
  have F4 := fun_mk (st := sLab) l4 c4 k4
  have b4 := F4.binds (ps := ["value"]) fun _ _ _ _ _ _ us hl => match us, hl with | [_], _ => rfl
  have F5 := fun_mk (st := sTxt) l5 c5 k5
  have b5 := F5.binds (ps := ["value"]) fun _ _ _ _ _ _ us hl => match us, hl with | [_], _ => rfl
  have D5 : Df K mg "is_text" sTxt ["value"] f5 _ := ⟨F5, PySem.W.mg_of X G a5, b5⟩
  have F6 := fun_mk (st := sFau) l6 c6 k6
  have b6 := F6.binds (ps := ["value"]) fun _ _ _ _ _ _ us hl => match us, hl with | [_], _ => rfl
  have D6 : Df K mg "_sign_fault" sFau ["value"] f6 _ := ⟨F6, PySem.W.mg_of X G a6, b6⟩
  have F7 := fun_mk (st := sSgn) l7 c7 k7
  have b7 := F7.binds (ps := ["value"]) fun _ _ _ _ _ _ us hl => match us, hl with | [_], _ => rfl
  have D7 : Df K mg "is_sign" sSgn ["value"] f7 _ := ⟨F7, PySem.W.mg_of X G a7, b7⟩
  have F8 := fun_mk (st := sRdl) l8 c8 k8
  have b8 := F8.binds (ps := ["value", "ahead"]) fun _ _ _ _ _ _ us hl => match us, hl with | [_, _], _ => rfl
  have D8 : Df K mg "read_levels" sRdl ["value", "ahead"] f8 _ := ⟨F8, PySem.W.mg_of X G a8, b8⟩
  have F9 := fun_mk (st := sStp) l9 c9 k9
  have b9 := F9.binds (ps := ["sign"]) fun _ _ _ _ _ _ us hl => match us, hl with | [_], _ => rfl
  have D9 : Df K mg "_step_of" sStp ["sign"] f9 _ := ⟨F9, PySem.W.mg_of X G a9, b9⟩
  have F10 := fun_mk (st := sRwh) l10 c10 k10
  have b10 := F10.binds (ps := ["value", "ahead"]) fun _ _ _ _ _ _ us hl => match us, hl with | [_, _], _ => rfl
  have D10 : Df K mg "_read_whole" sRwh ["value", "ahead"] f10 _ := ⟨F10, PySem.W.mg_of X G a10, b10⟩
  have F11 := fun_mk (st := sCpf) l11 c11 k11
  have b11 := F11.binds (ps := ["value"]) fun _ _ _ _ _ _ us hl => match us, hl with | [_], _ => rfl
  have D11 : Df K mg "check_prefix" sCpf ["value"] f11 _ := ⟨F11, PySem.W.mg_of X G a11, b11⟩
  have F12 := fun_mk (st := sCst) l12 c12 k12
  have b12 := F12.binds (ps := ["value"]) fun _ _ _ _ _ _ us hl => match us, hl with | [_], _ => rfl
  have D12 : Df K mg "check_stream" sCst ["value"] f12 _ := ⟨F12, PySem.W.mg_of X G a12, b12⟩
  have F13 := fun_mk (st := sIst) l13 c13 k13
  have b13 := F13.binds (ps := ["value"]) fun _ _ _ _ _ _ us hl => match us, hl with | [_], _ => rfl
  have D13 : Df K mg "is_stream" sIst ["value"] f13 _ := ⟨F13, PySem.W.mg_of X G a13, b13⟩
  have F14 := fun_mk (st := sCen) l14 c14 k14
  have b14 := F14.binds (ps := ["depth", "value"]) fun _ _ _ _ _ _ us hl => match us, hl with | [_, _], _ => rfl
  have D14 : Df K mg "check_ending" sCen ["depth", "value"] f14 _ := ⟨F14, PySem.W.mg_of X G a14, b14⟩
  have F15 := fun_mk (st := sIen) l15 c15 k15
  have b15 := F15.binds (ps := ["depth", "value"]) fun _ _ _ _ _ _ us hl => match us, hl with | [_, _], _ => rfl
  have D15 : Df K mg "is_ending" sIen ["depth", "value"] f15 _ := ⟨F15, PySem.W.mg_of X G a15, b15⟩
  have F16 := fun_mk (st := sDep) l16 c16 k16
  have b16 := F16.binds (ps := ["prefix"]) fun _ _ _ _ _ _ us hl => match us, hl with | [_], _ => rfl
  have D16 : Df K mg "depth" sDep ["prefix"] f16 _ := ⟨F16, PySem.W.mg_of X G a16, b16⟩
  have F17 := fun_mk (st := sItn) l17 c17 k17
  have b17 := F17.binds (ps := ["value"]) fun _ _ _ _ _ _ us hl => match us, hl with | [_], _ => rfl
  have D17 : Df K mg "_is_text_node" sItn ["value"] f17 _ := ⟨F17, PySem.W.mg_of X G a17, b17⟩
  have F18 := fun_mk (st := sIen') l18 c18 k18
  have b18 := F18.binds (ps := ["value"]) fun _ _ _ _ _ _ us hl => match us, hl with | [_], _ => rfl
  have D18 : Df K mg "_is_element_node" sIen' ["value"] f18 _ := ⟨F18, PySem.W.mg_of X G a18, b18⟩
  have F19 := fun_mk (st := sSig) l19 c19 k19
  have b19 := F19.binds (ps := ["document"]) fun _ _ _ _ _ _ us hl => match us, hl with | [_], _ => rfl
  have D19 : Df K mg "signs_of" sSig ["document"] f19 _ := ⟨F19, PySem.W.mg_of X G a19, b19⟩
  have F20 := fun_mk (st := sNod) l20 c20 k20
  have b20 := F20.binds (ps := ["signs"]) fun _ _ _ _ _ _ us hl => match us, hl with | [_], _ => rfl
  have D20 : Df K mg "_nodes_of" sNod ["signs"] f20 _ := ⟨F20, PySem.W.mg_of X G a20, b20⟩
  have F21 := fun_mk (st := sDoc) l21 c21 k21
  have b21 := F21.binds (ps := ["stream"]) fun _ _ _ _ _ _ us hl => match us, hl with | [_], _ => rfl
  have D21 : Df K mg "document_of" sDoc ["stream"] f21 _ := ⟨F21, PySem.W.mg_of X G a21, b21⟩
  have F22 := fun_mk (st := sBox) l22 c22 k22
  have b22 := F22.binds (ps := ["script", "k"]) fun _ _ _ _ _ _ us hl => match us, hl with | [_, _], _ => rfl
  have D22 : Df K mg "_law_box" sBox ["script", "k"] f22 _ := ⟨F22, PySem.W.mg_of X G a22, b22⟩
  have F23 := fun_mk (st := sTak) l23 c23 k23
  have b23 := F23.binds (ps := ["box", "many"]) fun _ _ _ _ _ _ us hl => match us, hl with | [_, _], _ => rfl
  have D23 : Df K mg "_law_take" sTak ["box", "many"] f23 _ := ⟨F23, PySem.W.mg_of X G a23, b23⟩
  have F24 := fun_mk (st := sPck) l24 c24 k24
  have b24 := F24.binds (ps := ["box", "some"]) fun _ _ _ _ _ _ us hl => match us, hl with | [_, _], _ => rfl
  have D24 : Df K mg "_law_pick" sPck ["box", "some"] f24 _ := ⟨F24, PySem.W.mg_of X G a24, b24⟩
  have F25 := fun_mk (st := sRws) l25 c25 k25
  have b25 := F25.binds (ps := ["signs", "many"]) fun _ _ _ _ _ _ us hl => match us, hl with | [_, _], _ => rfl
  have D25 : Df K mg "_law_rows" sRws ["signs", "many"] f25 _ := ⟨F25, PySem.W.mg_of X G a25, b25⟩
  have F26 := fun_mk (st := sWys) l26 c26 k26
  have b26 := F26.binds (ps := ["kinds", "many", "ahead"]) fun _ _ _ _ _ _ us hl => match us, hl with | [_, _, _], _ => rfl
  have D26 : Df K mg "_law_ways" sWys ["kinds", "many", "ahead"] f26 _ := ⟨F26, PySem.W.mg_of X G a26, b26⟩
  have F27 := fun_mk (st := sLaw) l27 c27 k27
  have b27 := F27.binds (ps := ["script"]) fun _ _ _ _ _ _ us hl => match us, hl with | [_], _ => rfl
  have D4 : DfC K mg "is_label" sLab ["value"] f4 _ c := ⟨⟨oc4, od4, kV4, dc4, pm4, an4, ct4, sl4, rfl, l4, c4⟩, k4, PySem.W.mg_of X G a4, b4⟩
  have FI := fun_mk (st := sIni) lI cI kI
  have bI := FI.binds (ps := ["self", "at"]) fun _ _ _ _ _ _ us hl => match us, hl with | [_, _], _ => rfl
  have B : BS K mg C fI _ := ⟨⟨⟨nm, q, N, bs, _, sn, sub, ab, col, dd, m0, m1, m2, m3, m5, xL, by rfl⟩, sa, eC, tC, kC⟩, na, aI, tI, FI, bI, PySem.W.mg_of X G aC, exm_self eC iC tC sC⟩
  refine ⟨c, P, PySem.W.fnOf "law" "law" (defArgs sLaw) (defBody sLaw) (defScope sLaw) .none kV27 dc27 pm27 an27 cd27 ct27, tab_mk a4 l4 rfl lc hp, nT, fun s u => .of_eq rfl, fun base _ _ TB => ?_⟩
  have Gfau : FnOk Pg w K mg base CX0 2 f6 _ ["value"] (spFau K P) := ok_fau F6 T TB D2 D4 D5
  have Gsgn : FnOk Pg w K mg base CX0 3 f7 _ ["value"] (spSgn K P) := ok_sgn F7 D6 Gfau
  have Grdl : FnOk Pg w K mg base (L2.CX Pg w) 4 f8 _ ["value", "ahead"] (spRdl K P C) := ok_rdl F8 T B D2 D7 Gsgn D9
  have Grwh : FnOk Pg w K mg base (L2.CX Pg w) 5 f10 _ ["value", "ahead"] (spRwh K P C) := ok_rwh F10 T B D8 Grdl
  have Gcpf : FnOk Pg w K mg base (L2.CX Pg w) 5 f11 _ ["value"] (spCpf K P C) := ok_cpf F11 D8 Grdl
  have Gdep : FnOk Pg w K mg base (L2.CX Pg w) 5 f16 _ ["prefix"] (spDep K P C) := ok_dep F16 D8 Grdl
  have Gcst : FnOk Pg w K mg base (L2.CX Pg w) 6 f12 _ ["value"] (spCst K P C) := ok_cst F12 D10 Grwh
  have Gcen : FnOk Pg w K mg base (L2.CX Pg w) 6 f14 _ ["depth", "value"] (spCen K P C) := ok_cen F14 T D1 D10 Grwh
  have Gist : FnOk Pg w K mg base CX0 7 f13 _ ["value"] (spIst K P) := ok_ist F13 B D12 Gcst
  have Gien : FnOk Pg w K mg base CX0 7 f15 _ ["depth", "value"] (spIen K P) := ok_ien F15 B D14 Gcen
  have Gdoc : FnOk Pg w K mg base (L2.CX Pg w) 7 f21 _ ["stream"] (spDoc K P) := ok_doc F21 T D20 D12 Gcst
  have Gitn : FnOk Pg w K mg base CX0 3 f17 _ ["value"] (spItn K P) := ok_itn F17 T D2 D3 D5
  have Giel : FnOk Pg w K mg base CX0 3 f18 _ ["value"] (spIel K P) := ok_iel F18 T TB D2 D3 D4
  have Gsig : FnOk Pg w K mg base CX0 4 f19 _ ["document"] (spSig K P) := ok_sig F19 T D2 D17 Gitn D18 Giel
  have Gbox : FnOk Pg w K mg base CX0 1 f22 _ ["script", "k"] (spBox K P) := ok_box F22 T
  have Gtak : FnOk Pg w K mg base CX0 1 f23 _ ["box", "many"] spTak := ok_tak F23 T
  have Gpck : FnOk Pg w K mg base CX0 2 f24 _ ["box", "some"] spPck := ok_pck F24 T D23
  have Grws : FnOk Pg w K mg base CX0 1 f25 _ ["signs", "many"] (spRws K P) := ok_rws F25 T
  have Gwys : FnOk Pg w K mg base CX0 1 f26 _ ["kinds", "many", "ahead"] (spWys K P) := ok_wys F26 T
  exact ok_law F27 T D22 Gbox D24 Gpck D23 Gtak D25 Grws D26 Gwys D13 Gist D15 Gien D11 Gcpf D16 Gdep D21 Gdoc D19 Gsig
theorem walk {l : PySem.W.OpenLaw} {q : Program} {loose : List Str} {XP : (Str → Option Value) → Heap → Prop} {YP : World → Heap → Prop} {d : DefRec} {K : Params → PySem.W.Frag} (hn : l.most = some 63) (hdf : d.params.defaults = [])
    (hrec : ((recsOf q).find? fun e => e.name == ("is_label" : Str)).isSome = true) (hY : ∀ (w : World) (h : Heap), YP w h → (K w.params).In h)
    (F : ∀ (w : World) (mg : Str → Option Value) (fa : Addr) (h : Heap), (K w.params).In h → h.Ns mainGlobals mg → mg d.name = some (.ref fa) → Known l.prog w (K w.params) mg fa) :
    PySem.W.WalkO q loose XP YP l.row.toRowW d [] (fun f vs => PySem.call f vs) := by
  refine Att.attach_callB hn hdf fun w s₀ s₁ mg mb fa o pm cd doc a vs ns G Y ho hd hcd hmg hobj hints hlen hbits hg => ?_
  have KX := hY w _ Y
  obtain ⟨c, P, fd, ht, nT, hb, hF⟩ := F w mg fa _ KX G.T.g hmg
  obtain ⟨dr, hr⟩ := Option.isSome_iff_exists.mp hrec
  obtain ⟨Ch, hT⟩ := PySem.W.tab_of G.T KX hr ht
  refine LamX.law_callTs (cs := [(c, P)]) (sp := spLaw (K w.params) P) (k := 8) (CX := CX0) (x := "script") KX G.T.g G.T.b G.T.builtins G.T.nolimit hg (fun p hp => ?_) (fun p hp => ?_) (fun p hp => ?_) G.T.bmain hobj hints (Nat.le_trans hlen (by decide)) ⟨rfl, by decide, by decide⟩
    (fun base h1 h2 h3 => ?_) hb (fun H hH hS => ⟨⟨#[], hH (c, P) (List.mem_singleton.mpr rfl), ?_⟩, a, ns, rfl, hS, hlen, fun _ => rfl⟩) (fun _ _ _ z => z)
  · rw [List.mem_singleton.mp hp]
    exact hT
  · rw [List.mem_singleton.mp hp]
    exact nT
  · rw [List.mem_singleton.mp hp]
    exact Ch
  · have t := h3 (c, P) (List.mem_singleton.mpr rfl)
    exact hF base h1 h2 ⟨t.code, t.bm, t.gP⟩
  · simp [TriplesOk]
end K6

set_option maxRecDepth 100000
open PySem PySem.W PyProof.Rows
set_option maxRecDepth 100000 in
set_option maxHeartbeats 0 in
theorem PySem.Challenge.cw_stillopen_k06_whole_all_rows_of_a_few_si_holds : PySem.Challenge.rw_stillopen_k06_whole_all_rows_of_a_few_si.Holds := by
  w_on; o_law; k_head; (case hw => w_witness2)
  k_fill
  refine K6.walk (l := PySem.Challenge.rw_stillopen_k06_whole_all_rows_of_a_few_si) rfl rfl (by decide +kernel) (fun w h Y => PySem.W.kIn_of Y) ?F
  case F =>
    intro w mg fa h KX G hmg
    refine' K6.all_mk KX G hmg ?a1 ?l1 ?c1 ?k1 ?a2 ?l2 ?c2 ?k2 ?a3 ?l3 ?c3 ?k3 ?a4 ?l4 ?c4 ?k4 ?a5 ?l5 ?c5 ?k5 ?a6 ?l6 ?c6 ?k6 ?a7 ?l7 ?c7 ?k7 ?a8 ?l8 ?c8 ?k8 ?a9 ?l9 ?c9 ?k9 ?a10 ?l10 ?c10 ?k10 ?a11 ?l11 ?c11 ?k11 ?a12 ?l12 ?c12 ?k12 ?a13 ?l13 ?c13 ?k13 ?a14 ?l14 ?c14 ?k14 ?a15 ?l15 ?c15 ?k15 ?a16 ?l16 ?c16 ?k16 ?a17 ?l17 ?c17 ?k17 ?a18 ?l18 ?c18 ?k18 ?a19 ?l19 ?c19 ?k19 ?a20 ?l20 ?c20 ?k20 ?a21 ?l21 ?c21 ?k21 ?a22 ?l22 ?c22 ?k22 ?a23 ?l23 ?c23 ?k23 ?a24 ?l24 ?c24 ?k24 ?a25 ?l25 ?c25 ?k25 ?a26 ?l26 ?c26 ?k26 ?a27 ?l27 ?c27 ?k27 ?lc ?hp ?nT ?aC ?xL ?sa ?na ?aI ?tI ?lI ?cI ?kI ?kC ?eC ?tC ?iC ?sC ?z0 ?z1 ?z2 ?z3 ?z4 ?z5 ?z6 ?z7 ?z8 ?z9 ?z10 ?z11 ?z12 ?z13 ?vL ?vM ?vT
    (case a1 => k_is); (case l1 => k_is); (case c1 => k_is); (case k1 => k_is)
    (case a2 => k_is); (case l2 => k_is); (case c2 => k_is); (case k2 => k_is)
    (case a3 => k_is); (case l3 => k_is); (case c3 => k_is); (case k3 => k_is)
    (case a4 => k_is); (case l4 => k_is); (case c4 => k_is); (case k4 => k_is)
    (case a5 => k_is); (case l5 => k_is); (case c5 => k_is); (case k5 => k_is)
    (case a6 => k_is); (case l6 => k_is); (case c6 => k_is); (case k6 => k_is)
    (case a7 => k_is); (case l7 => k_is); (case c7 => k_is); (case k7 => k_is)
    (case a8 => k_is); (case l8 => k_is); (case c8 => k_is); (case k8 => k_is)
    (case a9 => k_is); (case l9 => k_is); (case c9 => k_is); (case k9 => k_is)
    (case a10 => k_is); (case l10 => k_is); (case c10 => k_is); (case k10 => k_is)
    (case a11 => k_is); (case l11 => k_is); (case c11 => k_is); (case k11 => k_is)
    (case a12 => k_is); (case l12 => k_is); (case c12 => k_is); (case k12 => k_is)
    (case a13 => k_is); (case l13 => k_is); (case c13 => k_is); (case k13 => k_is)
    (case a14 => k_is); (case l14 => k_is); (case c14 => k_is); (case k14 => k_is)
    (case a15 => k_is); (case l15 => k_is); (case c15 => k_is); (case k15 => k_is)
    (case a16 => k_is); (case l16 => k_is); (case c16 => k_is); (case k16 => k_is)
    (case a17 => k_is); (case l17 => k_is); (case c17 => k_is); (case k17 => k_is)
    (case a18 => k_is); (case l18 => k_is); (case c18 => k_is); (case k18 => k_is)
    (case a19 => k_is); (case l19 => k_is); (case c19 => k_is); (case k19 => k_is)
    (case a20 => k_is); (case l20 => k_is); (case c20 => k_is); (case k20 => k_is)
    (case a21 => k_is); (case l21 => k_is); (case c21 => k_is); (case k21 => k_is)
    (case a22 => k_is); (case l22 => k_is); (case c22 => k_is); (case k22 => k_is)
    (case a23 => k_is); (case l23 => k_is); (case c23 => k_is); (case k23 => k_is)
    (case a24 => k_is); (case l24 => k_is); (case c24 => k_is); (case k24 => k_is)
    (case a25 => k_is); (case l25 => k_is); (case c25 => k_is); (case k25 => k_is)
    (case a26 => k_is); (case l26 => k_is); (case c26 => k_is); (case k26 => k_is)
    (case a27 => k_is); (case l27 => k_is); (case c27 => k_is); (case k27 => k_is)
    (case lc => k_is)
    (case hp => rfl)
    (case nT => first | rfl | kernel_rfl)
    (case aC => k_is)
    (case xL => k_is)
    (case sa => k_is)
    (case na => k_is)
    (case aI => k_is)
    (case tI => k_is)
    (case lI => k_is)
    (case cI => k_is)
    (case kI => k_is)
    (case kC => k_is)
    (case eC => k_is)
    (case tC => k_is)
    (case iC => k_is)
    (case sC => first | rfl | k_is)
    (case z0 => k_is)
    (case z1 => k_is)
    (case z2 => k_is)
    (case z3 => k_is)
    (case z4 => k_is)
    (case z5 => k_is)
    (case z6 => k_is)
    (case z7 => k_is)
    (case z8 => k_is)
    (case z9 => k_is)
    (case z10 => k_is)
    (case z11 => k_is)
    (case z12 => k_is)
    (case z13 => k_is)
    (case vL => k_is)
    (case vM => k_is)
    (case vT => k_is)
